package node

import (
	"math/big"
	"slices"

	"pallet/api"
)

// What a node is to become, and to tell, by the chapter's own words: no layer is asked, and what might go over is reckoned in whole numbers without end.

// The document's numbers, written out: a limit that is mistaken elsewhere is noticed here.
const (
	maxTime   = 1152921504606846976
	maxTicks  = 1099511627776
	maxSlot   = 1048576
	maxSlots  = 4294967296
	maxPeriod = 1000000000
	maxDrift  = 1000000
	billion   = 1000000000
	topCount  = 1073741824
)

// What a node is at, and what a frame is judged to be, written out.
const (
	off    = 0
	listen = 1
	active = 2
	frozen = 3

	null    = 0
	correct = 1
	noAck   = 2
	wrong   = 3
)

// The notes, written out.
const (
	wakeNote   = 1
	coldNote   = 2
	joinNote   = 3
	nullNote   = 4
	wrongNote  = 5
	noAckNote  = 6
	oddNote    = 7
	syncNote   = 8
	freezeNote = 9
	sendNote   = 10
)

// told is what a call answers.
type told struct {
	n    api.Node
	acts []api.Act
	e    api.Errno
}

func timerAt(at int64) api.Act          { return api.Act{Kind: 1, At: at} }
func sends(f api.Frame) api.Act         { return api.Act{Kind: 2, F: f} }
func notes(kind int, b int64) api.Act   { return api.Act{Kind: 3, A: kind, B: b} }
func between(n, least, most int64) bool { return least <= n && n <= most }

// has, with and without are of members, bit by bit.
func has(members uint16, node int) bool       { return members>>node%2 == 1 }
func with(members uint16, node int) uint16    { return members | 1<<node }
func without(members uint16, node int) uint16 { return members &^ (1 << node) }

func whose(m api.Medl, slot uint64) int { return int(slot % uint64(m.Nodes)) }

func scheduleMayBe(m api.Medl) bool {
	sum := new(big.Int)
	for _, n := range []int64{m.Lead, m.Frame, m.Window} {
		sum.Add(sum, big.NewInt(n))
	}
	return between(int64(m.Nodes), 2, 16) && between(m.Slot, 16, maxSlot) &&
		m.Lead >= 1 && m.Frame >= 1 && m.Window >= 1 && m.Window <= m.Lead && sum.Cmp(big.NewInt(m.Slot)) < 0
}

func clockMayBe(o api.Osc) bool {
	return between(o.Period, 1, maxPeriod) && between(o.Drift, -maxDrift, maxDrift) && between(o.Rem, 0, billion-1)
}

// mayBe tells whether a node may be.
func mayBe(m api.Medl, n api.Node) bool {
	if !scheduleMayBe(m) || !clockMayBe(n.Osc) || !between(int64(n.Id), 0, int64(m.Nodes)-1) {
		return false
	}
	if n.Phase == off {
		return n.Slot == 0 && n.Start == 0 && n.Corr == 0 && n.Members == 0 && n.T.Good == 0 && n.T.Bad == 0 &&
			len(n.Devs) == 0 && !n.Sent && n.Verdict == 0
	}
	for _, d := range n.Devs {
		if d < -m.Window || d > m.Window {
			return false
		}
	}
	return between(int64(n.Phase), 1, 3) && n.Slot <= maxSlots && between(n.Start, 0, maxTime) &&
		between(n.Corr, -m.Window, m.Window) && len(n.Devs) <= m.Nodes &&
		between(int64(n.T.Good), 0, topCount) && between(int64(n.T.Bad), 0, topCount) && between(int64(n.Verdict), 0, 3)
}

// lasts is how long ticks of a clock last, and what is left then.
func lasts(o api.Osc, ticks int64) (*big.Int, int64) {
	all := new(big.Int).Mul(big.NewInt(o.Period), big.NewInt(billion+o.Drift))
	all.Mul(all, big.NewInt(ticks))
	all.Add(all, big.NewInt(o.Rem))
	ps, left := all.DivMod(all, big.NewInt(billion), new(big.Int))
	return ps, left.Int64()
}

// ticksIn are the most ticks of a clock that last no longer than that.
func ticksIn(o api.Osc, ps int64) int64 {
	least, most := int64(0), int64(maxTicks)
	for least < most {
		middle := (least + most + 1) / 2
		if length, _ := lasts(o, middle); length.Cmp(big.NewInt(ps)) > 0 {
			most = middle - 1
		} else {
			least = middle
		}
	}
	return least
}

// meanOf is the mean of some numbers without the least and the greatest, within a window.
func meanOf(window int64, l []int64) int64 {
	l = slices.Clone(l)
	slices.Sort(l)
	switch {
	case len(l) == 0:
		return 0
	case len(l) > 2:
		l = l[1 : len(l)-1]
	}
	mean := (l[0] + l[len(l)-1]) / 2
	if mean*2 > l[0]+l[len(l)-1] {
		mean--
	}
	return max(-window, min(mean, window))
}

// story is how a node goes on, word by word.
type story struct {
	m    api.Medl
	n    api.Node
	acts []api.Act
	over bool
}

// tell is what is answered, if what is given may be, or may not.
func tell(m api.Medl, n api.Node, may bool, goOn func(s *story)) told {
	if !may || !mayBe(m, n) {
		return told{n, nil, api.ErrArg}
	}
	s := story{m: m, n: n}
	s.n.Devs = slices.Clone(n.Devs)
	goOn(&s)
	if s.over {
		return told{n, nil, api.ErrOver}
	}
	return told{s.n, s.acts, api.OK}
}

// at is its time of so many ticks, and what is left then.
func (s *story) at(ticks int64) (int64, int64) {
	ps, left := lasts(s.n.Osc, ticks)
	ps.Add(ps, big.NewInt(s.n.Start))
	if ps.Cmp(big.NewInt(maxTime)) > 0 {
		s.over = true
	}
	return ps.Int64(), left
}

func (s *story) timer(ticks int64) {
	at, _ := s.at(ticks)
	s.acts = append(s.acts, timerAt(at))
}

func (s *story) note(kind int, b int64) { s.acts = append(s.acts, notes(kind, b)) }

func (s *story) dev(ticks int64) {
	if len(s.n.Devs) < s.m.Nodes {
		s.n.Devs = append(s.n.Devs, ticks)
	}
}

// toldWake is what Wake is to answer.
func toldWake(m api.Medl, n api.Node, now int64) told {
	return tell(m, n, between(now, 0, maxTime), func(s *story) {
		if n.Phase != off {
			return
		}
		s.n.Phase, s.n.Start = listen, now
		s.note(wakeNote, 0)
		s.timer((2*int64(m.Nodes) + 2*int64(n.Id)) * m.Slot)
	})
}

// toldTimer is what Timer is to answer.
func toldTimer(m api.Medl, n api.Node, now int64) told {
	return tell(m, n, between(now, 0, maxTime), func(s *story) {
		switch {
		case n.Phase == listen:
			s.n.Phase, s.n.Slot, s.n.Start, s.n.Corr = active, uint64(n.Id), now, 0
			s.n.Members, s.n.T, s.n.Devs = with(0, n.Id), api.Tally{Good: 1}, nil
			s.n.Sent, s.n.Verdict = false, null
			s.note(coldNote, 0)
			s.timer(m.Lead)
		case n.Phase == active && whose(m, n.Slot) == n.Id && !n.Sent:
			s.sends()
		case n.Phase == active:
			s.ends()
		}
	})
}

func (s *story) sends() {
	s.n.Sent, s.n.Members = true, with(s.n.Members, s.n.Id)
	f := api.Frame{Kind: 1, From: s.n.Id, Slot: s.n.Slot, Members: s.n.Members}
	if s.n.Members == with(0, s.n.Id) {
		f.Kind = 2
	}
	s.acts = append(s.acts, sends(f))
	s.note(sendNote, int64(s.n.Slot))
	s.timer(s.m.Slot + s.n.Corr)
}

func (s *story) ends() {
	n, owner := &s.n, whose(s.m, s.n.Slot)
	mine := owner == n.Id
	if !mine && has(n.Members, owner) && n.Verdict == null {
		s.note(nullNote, int64(owner))
	}
	switch {
	case mine:
		n.Members = with(n.Members, owner)
		s.dev(0)
	case n.Verdict == correct:
		n.Members = with(n.Members, owner)
	case n.Verdict == noAck:
		n.Members = without(with(n.Members, owner), n.Id)
	default:
		n.Members = without(n.Members, owner)
	}
	n.Start, n.Osc.Rem = s.at(s.m.Slot + n.Corr)
	n.Corr = 0
	if owner == s.m.Nodes-1 {
		n.Corr, n.Devs = meanOf(s.m.Window, n.Devs), nil
		s.note(syncNote, n.Corr)
	}
	n.Slot++
	if n.Slot > maxSlots {
		s.over = true
		return
	}
	n.Sent, n.Verdict = false, null
	switch {
	case whose(s.m, n.Slot) != n.Id:
		s.timer(s.m.Slot + n.Corr)
	case n.T.Bad > 0 && n.T.Bad >= n.T.Good:
		n.Phase = frozen
		s.note(freezeNote, 0)
	default:
		n.T = api.Tally{Good: 1}
		s.timer(s.m.Lead)
	}
}

// toldHear is what Hear is to answer, of a frame, or of none.
func toldHear(m api.Medl, n api.Node, now, began int64, f *api.Frame, bad bool) told {
	return tell(m, n, between(now, 0, maxTime) && between(began, 0, now), func(s *story) {
		switch {
		case bad || f == nil || f.From == n.Id:
		case n.Phase == listen:
			s.joins(*f, now, began)
		case n.Phase == active && whose(m, n.Slot) != n.Id && n.Verdict == null && began >= n.Start:
			s.judges(*f, began)
		}
	})
}

func (s *story) joins(f api.Frame, now, began int64) {
	lead, _ := lasts(s.n.Osc, s.m.Lead)
	length, _ := lasts(s.n.Osc, s.m.Slot)
	begins := new(big.Int).Sub(big.NewInt(began), lead)
	ends := new(big.Int).Add(begins, length)
	if f.From != whose(s.m, f.Slot) || begins.Sign() < 0 || ends.Cmp(big.NewInt(now)) <= 0 {
		return
	}
	s.n.Phase, s.n.Slot, s.n.Start, s.n.Corr = active, f.Slot, begins.Int64(), 0
	s.n.Members, s.n.T = without(with(f.Members, f.From), s.n.Id), api.Tally{Good: 1}
	s.n.Devs, s.n.Sent, s.n.Verdict = []int64{0}, false, correct
	s.note(joinNote, int64(f.Slot))
	s.timer(s.m.Slot)
}

func (s *story) judges(f api.Frame, began int64) {
	late := ticksIn(s.n.Osc, began-s.n.Start) - s.m.Lead
	if late < -s.m.Window || late > s.m.Window {
		s.note(oddNote, late)
		return
	}
	mine := s.n.Members
	due := f.From == whose(s.m, s.n.Slot) && f.Slot == s.n.Slot
	switch {
	case due && f.Members == with(mine, f.From):
		s.n.Verdict = correct
		s.dev(late)
	case due && has(mine, s.n.Id) && f.Members == with(without(mine, s.n.Id), f.From):
		s.n.Verdict = noAck
		s.note(noAckNote, int64(f.From))
		s.dev(late)
	default:
		s.n.Verdict = wrong
		s.note(wrongNote, int64(f.From))
		s.n.T.Bad = min(s.n.T.Bad+1, topCount)
		return
	}
	s.n.T.Good = min(s.n.T.Good+1, topCount)
}
