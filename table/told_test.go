package table

import (
	"fmt"
	"slices"
	"testing"

	"pallet/api"
	"pallet/check"
	"pallet/lex"
	"pallet/parse"
	"pallet/sample"
)

// What tables are to be, by the chapter's own words: each statement's injections are told by themselves, of each way in which the repeats around it may stand.

// The document's numbers, written out: a limit that is mistaken elsewhere is noticed here.
const (
	maxNodes   = 16
	channels   = 2
	maxInj     = 500
	maxTime    = 1152921504606846976
	maxHorizon = 1125899906842624

	silenceI = 1
	corruptI = 2
	cutI     = 3
	babbleI  = 4
	crashI   = 5

	okE    = 0
	argE   = 1
	overE  = 2
	shortE = 3
	formE  = 4
	longE  = 6
	fullE  = 7
	noneE  = 8
)

// world is what must stand in a campaign; its statements are 0 to 3.
const world = "nodes 3; tick 1ns; slot 100 20 30 10; horizon 1ms; "

// comesAhead tells whether an injection comes ahead of another one.
func comesAhead(x, y api.Inj) bool {
	if x.At != y.At {
		return x.At < y.At
	}
	if x.Kind != y.Kind {
		return x.Kind < y.Kind
	}
	if x.Who != y.Who {
		return x.Who < y.Who
	}
	return x.Until < y.Until
}

// sorted are injections in their order: each one stands behind all that come ahead of it.
func sorted(l []api.Inj) []api.Inj {
	var all []api.Inj
	for _, x := range l {
		at := slices.IndexFunc(all, func(y api.Inj) bool { return comesAhead(x, y) })
		if at < 0 {
			at = len(all)
		}
		all = slices.Insert(all, at, x)
	}
	return all
}

// ofWord is what a statement of a campaign injects, were there no repeat around it.
func ofWord(x api.Stmt) (api.Inj, bool) {
	if !slices.Contains([]string{"silence", "corrupt", "cut", "babble", "crash"}, x.Word) {
		return api.Inj{}, false
	}
	n := x.Nums
	at, who := n[1].N, int(n[0].N)
	return map[string]func() api.Inj{
		"silence": func() api.Inj { return api.Inj{At: at, Kind: silenceI, Who: who, Until: at + n[2].N} },
		"corrupt": func() api.Inj { return api.Inj{At: at, Kind: corruptI, Who: who, Until: at + n[2].N} },
		"cut":     func() api.Inj { return api.Inj{At: at, Kind: cutI, Who: who, Until: at + n[2].N} },
		"babble":  func() api.Inj { return api.Inj{At: at, Kind: babbleI, Who: who, Until: at} },
		"crash":   func() api.Inj { return api.Inj{At: at, Kind: crashI, Who: who, Until: at} },
	}[x.Word](), true
}

// around is a repeat: how often, and every so much.
type around struct{ often, every int64 }

// times is how often something is there within repeats; of more than maxInj it is one more.
func times(l []around) int64 {
	many := int64(1)
	for _, r := range l {
		many = min(many*r.often, maxInj+1)
	}
	return many
}

// copies are an injection as often as it is there within repeats.
func copies(x api.Inj, l []around) []api.Inj {
	if len(l) == 0 {
		return []api.Inj{x}
	}
	var all []api.Inj
	for i := range l[0].often {
		y := x
		y.At += i * l[0].every
		y.Until += i * l[0].every
		all = append(all, copies(y, l[1:])...)
	}
	return all
}

// visit hands on each statement, and the repeats around it, until it is told to stop.
func visit(l []api.Stmt, within []around, hand func(x api.Stmt, within []around) bool) bool {
	for _, x := range l {
		if !hand(x, within) {
			return false
		}
		if x.Block && !visit(x.Body, append(slices.Clone(within), around{x.Nums[0].N, x.Nums[1].N}), hand) {
			return false
		}
	}
	return true
}

// tableOf is what Table is to answer.
func tableOf(l []api.Stmt) ([]api.Inj, int, api.Errno) {
	if at, e := check.Check(l...); e != okE {
		return nil, at, e
	}
	at, many := 0, int64(0)
	var all []api.Inj
	ends := visit(l, nil, func(x api.Stmt, within []around) bool {
		if y, is := ofWord(x); is {
			if many += times(within); many > maxInj {
				return false
			}
			all = append(all, copies(y, within)...)
		}
		at++
		return true
	})
	if !ends {
		return nil, at, fullE
	}
	return sorted(all), 0, okE
}

// injOf is what Check is to answer.
func injOf(l []api.Inj) api.Errno {
	if len(l) > maxInj {
		return argE
	}
	for i, x := range l {
		last := 15
		switch x.Kind {
		case silenceI, corruptI:
		case cutI:
			last = 1
		case babbleI, crashI:
			if x.Until != x.At {
				return argE
			}
		default:
			return argE
		}
		if x.Who < 0 || x.Who > last || x.At < 0 || x.At > maxTime || x.Until < x.At || x.Until > maxTime {
			return argE
		}
		if i > 0 && comesAhead(x, l[i-1]) {
			return argE
		}
	}
	return okE
}

// behindOf is the place behind a text, rune by rune.
func behindOf(s string) api.Place {
	p := api.Place{Line: 1, Col: 1}
	for _, r := range s {
		if p.Col++; r == 10 {
			p = api.Place{Line: p.Line + 1, Col: 1}
		}
	}
	return p
}

// compileOf is what Compile is to answer.
func compileOf(s string) (api.Conf, []api.Inj, api.Place, api.Errno) {
	l, place, e := parse.Parse(s)
	if e != okE {
		return api.Conf{}, nil, place, e
	}
	all, at, e := tableOf(l)
	if e == okE {
		c, _, _ := check.Conf(l...)
		return c, all, api.Place{}, okE
	}
	// In what is parsed each word begins a statement.
	var begin []api.Place
	tokens, places, _, _ := lex.Cut(s)
	for i, x := range tokens {
		if x.Kind == 1 {
			begin = append(begin, places[i])
		}
	}
	return api.Conf{}, nil, append(begin, behindOf(s))[at], e
}

// same tells whether lists are the same, one by one.
func same(a, b []api.Inj) bool {
	if len(a) != len(b) {
		return false
	}
	for i, x := range a {
		if x.At != b[i].At || x.Kind != b[i].Kind || x.Who != b[i].Who || x.Until != b[i].Until {
			return false
		}
	}
	return true
}

// checkTable holds what Table tells against what is to be told.
func checkTable(t *testing.T, l []api.Stmt) api.Errno {
	t.Helper()
	all, at, want := tableOf(l)
	if got, i, e := Table(l...); !same(got, all) || i != at || e != want {
		t.Fatalf("Table(%.900s): got %v, %d, %d, want %v, %d, %d", sample.Shown(l), got, i, e, all, at, want)
	}
	return want
}

// checkText holds what Compile tells against what is to be told.
func checkText(t *testing.T, s string) api.Errno {
	t.Helper()
	c, all, place, want := compileOf(s)
	gotC, got, at, e := Compile(s)
	if fmt.Sprint(gotC) != fmt.Sprint(c) || !same(got, all) || at != place || e != want {
		t.Fatalf("Compile(%.900q): got %v, %v, %v, %d, want %v, %v, %v, %d", s, gotC, got, at, e, c, all, place, want)
	}
	return want
}

// checkInj holds what Check tells against what is to be told.
func checkInj(t *testing.T, l []api.Inj) api.Errno {
	t.Helper()
	want := injOf(l)
	if got := Check(l...); got != want {
		t.Fatalf("Check(%v): got %d, want %d", l, got, want)
	}
	return want
}

// parsed are a text's statements.
func parsed(t *testing.T, s string) []api.Stmt {
	t.Helper()
	l, at, e := parse.Parse(s)
	if e != okE {
		t.Fatalf("%.400q: %v, %d", s, at, e)
	}
	return l
}

// repeat is one, with a block.
func repeat(often, every int64, body ...api.Stmt) api.Stmt {
	x := sample.Said("repeat", "nt", often, every)
	x.Block, x.Body = true, body
	return x
}

// campaign is a drawn one, whose repeats are there up to so often.
func campaign(from uint64, often int64) []api.Stmt {
	l := sample.Own(sample.Campaign(from))
	sample.Each(l, func(x *api.Stmt) {
		if x.Word == "repeat" {
			x.Nums[0].N = 1 + x.Nums[0].N%often
		}
	})
	return l
}
