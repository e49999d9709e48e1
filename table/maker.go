package table

import "pallet/api"

// maker goes through a campaign's statements in the order in which they stand, and makes their injections: how many statements it is done with, and what it made.
type maker struct {
	done int
	all  []api.Inj
}

// list makes the injections of statements, each of them there as often as there are numbers, so much later; it stops at the first statement by which there are too many.
func (m *maker) list(l []api.Stmt, later []int64) api.Errno {
	for _, x := range l {
		if kind := kindOf(x.Word); kind != 0 {
			m.add(kind, x.Nums, later)
		}
		if len(m.all) > api.MaxInj {
			return api.ErrFull
		}
		m.done++
		if !x.Block {
			continue
		}
		if e := m.list(x.Body, again(later, x.Nums)); e != api.OK {
			return e
		}
	}
	return api.OK
}

// add makes the injections of a statement of such numbers.
func (m *maker) add(kind int, n []api.Num, later []int64) {
	x := api.Inj{At: n[1].N, Kind: kind, Who: int(n[0].N), Until: n[1].N}
	if !isInstant(kind) {
		x.Until += n[2].N
	}
	for _, t := range later {
		m.all = append(m.all, api.Inj{At: x.At + t, Kind: x.Kind, Who: x.Who, Until: x.Until + t})
	}
}

// kindOf is the kind of the injections of which a word tells, or 0.
func kindOf(word string) int {
	switch word {
	case "silence":
		return api.SilenceI
	case "corrupt":
		return api.CorruptI
	case "cut":
		return api.CutI
	case "babble":
		return api.BabbleI
	case "crash":
		return api.CrashI
	}
	return 0
}

// again is by how much later what is in the block of a repeat of such numbers is there, where the repeat itself is that much later.
// Of more than there may be one too many will do: whichever injection is there that often is one by which there are too many.
func again(later []int64, n []api.Num) []int64 {
	var all []int64
	for _, t := range later {
		for i := range n[0].N {
			if len(all) > api.MaxInj {
				return all
			}
			all = append(all, t+i*n[1].N)
		}
	}
	return all
}
