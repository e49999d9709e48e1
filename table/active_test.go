package table

import (
	"math"
	"slices"
	"testing"

	"pallet/api"
	"pallet/drawn"
)

// P18.2

// activeOf is what Active is to answer.
func activeOf(l []api.Inj, kind, who int, t int64) bool {
	for _, x := range l {
		if x.Kind != kind || x.Who != who {
			continue
		}
		if x.At <= t && x.Until > t {
			return true
		}
	}
	return false
}

// checkActive holds what Active tells against what is to be told.
func checkActive(t *testing.T, l []api.Inj, kind, who int, at int64) bool {
	t.Helper()
	want := activeOf(l, kind, who, at)
	if got := Active(l, kind, who, at); got != want {
		t.Fatalf("Active(%v, %d, %d, %d): got %v", l, kind, who, at, got)
	}
	return want
}

func TestActiveByHand(t *testing.T) {
	l := []api.Inj{
		{At: 5, Kind: silenceI, Who: 1, Until: 10},
		{At: 5, Kind: cutI, Who: 1, Until: 7},
		{At: 6, Kind: corruptI, Who: 2, Until: 6},
		{At: 7, Kind: crashI, Who: 2, Until: 7},
		{At: 8, Kind: silenceI, Who: 1, Until: 12},
		{At: 20, Kind: silenceI, Who: 1, Until: 21},
	}
	for i, x := range []struct {
		kind, who int
		from, to  int64
	}{
		{silenceI, 1, 5, 12}, {cutI, 1, 5, 7}, {corruptI, 2, 0, 0}, {crashI, 2, 0, 0}, {silenceI, 2, 0, 0}, {silenceI, 0, 0, 0}, {cutI, 0, 0, 0}, {corruptI, 1, 0, 0}, {babbleI, 1, 0, 0}, {0, 0, 0, 0},
	} {
		for at := int64(-1); at < 20; at++ {
			if got := Active(l, x.kind, x.who, at); got != (x.from <= at && at < x.to) {
				t.Errorf("%d: at %d: got %v", i, at, got)
			}
			checkActive(t, l, x.kind, x.who, at)
		}
	}
	if !Active(l, silenceI, 1, 20) || Active(l, silenceI, 1, 21) || Active(nil, silenceI, 1, 5) || Active([]api.Inj{}, 0, 0, 0) {
		t.Error("at 20, at 21, and of none")
	}
}

// Whatever the list is, be it in no order, and of what may not be.
func TestActiveOfAnyList(t *testing.T) {
	l := []api.Inj{
		{At: math.MaxInt64, Kind: 9, Who: -1, Until: math.MaxInt64}, {At: 5, Kind: crashI, Until: 9}, {At: -5, Kind: babbleI, Until: -1}, {At: 9, Kind: silenceI, Until: 2},
		{At: math.MinInt64, Kind: 9, Who: -1, Until: math.MaxInt64}, {At: 0, Kind: cutI, Who: 99, Until: 1}, {},
	}
	for _, x := range l {
		for _, at := range []int64{math.MinInt64, math.MinInt64 + 1, -6, -5, -2, -1, 0, 1, 2, 4, 5, 8, 9, math.MaxInt64 - 1, math.MaxInt64} {
			checkActive(t, l, x.Kind, x.Who, at)
			checkActive(t, []api.Inj{x}, x.Kind, x.Who, at)
			checkActive(t, l, x.Kind, 0, at)
		}
	}
	if !Active(l, crashI, 0, 5) || !Active(l, 9, -1, math.MinInt64) || Active(l, 9, -1, math.MaxInt64) || Active(l, silenceI, 0, 5) {
		t.Error("of what may not be")
	}
}

func TestActiveOfDrawnTables(t *testing.T) {
	met := map[bool]int{}
	for i := range uint64(300) {
		l, _, _ := Table(campaign(i, 4)...)
		for j, x := range l {
			for _, at := range []int64{x.At - 1, x.At, x.At + 1, x.Until - 1, x.Until, x.Until + 1} {
				met[checkActive(t, l, x.Kind, x.Who, at)]++
				met[checkActive(t, l, 1+j%5, j%16, at)]++
			}
		}
		for j, n := range drawn.Numbers(50, i) {
			met[checkActive(t, l, 1+j%3, int(n%4), int64(n%maxHorizon)>>(n>>40%51))]++
		}
	}
	if met[true] < 500 || met[false] < 500 {
		t.Errorf("met are %v", met)
	}
}

// instantsOf is what Instants is to answer.
func instantsOf(l []api.Inj) []api.Inj {
	var all []api.Inj
	for _, x := range l {
		switch x.Kind {
		case babbleI, crashI:
			all = append(all, x)
		}
	}
	return all
}

func TestInstantsByHand(t *testing.T) {
	l := []api.Inj{{Kind: silenceI}, {Kind: babbleI}, {Kind: crashI}, {At: 1, Kind: corruptI, Until: 1}, {At: 1, Kind: cutI, Until: 1}, {At: 1, Kind: crashI, Until: 1}, {At: 1, Kind: crashI, Until: 1}, {At: 2, Kind: babbleI, Who: 5, Until: 2}}
	want := []api.Inj{{Kind: babbleI}, {Kind: crashI}, {At: 1, Kind: crashI, Until: 1}, {At: 1, Kind: crashI, Until: 1}, {At: 2, Kind: babbleI, Who: 5, Until: 2}}
	if got := Instants(l...); !same(got, want) {
		t.Errorf("got %v", got)
	}
	for _, none := range [][]api.Inj{nil, {}, {{Kind: silenceI}}, {{}}, {{Kind: 6}}, {{Kind: -4}}} {
		if got := Instants(none...); len(got) != 0 {
			t.Errorf("of %v: got %v", none, got)
		}
	}
}

// Of any list they stay in its order.
func TestInstantsOfAnyList(t *testing.T) {
	some := append(fewer(), api.Inj{}, api.Inj{At: 9, Kind: crashI, Who: 99, Until: -1}, api.Inj{At: -9, Kind: babbleI, Who: -99, Until: 1})
	for _, x := range some {
		for _, y := range some {
			for _, z := range some {
				l := []api.Inj{x, y, z, x}
				if got, want := Instants(l...), instantsOf(l); !same(got, want) {
					t.Fatalf("Instants(%v): got %v, want %v", l, got, want)
				}
			}
		}
	}
	long := slices.Repeat(some, 1000)
	if got, want := Instants(long...), instantsOf(long); !same(got, want) {
		t.Errorf("got %d, want %d", len(got), len(want))
	}
}

func TestInstantsAreNew(t *testing.T) {
	for i := range uint64(100) {
		l, _, _ := Table(campaign(i, 3)...)
		was := slices.Clone(l)
		// Behind what is handed in there is room, in which something else stands.
		got := Instants(l[:len(l)/2]...)
		if want := instantsOf(l[:len(l)/2]); !same(got, want) || !same(l, was) {
			t.Fatalf("%v became %v, and %v", was, l, got)
		}
		want := slices.Clone(got)
		for j := range l {
			l[j] = api.Inj{At: -7}
		}
		if !same(got, want) {
			t.Fatalf("%v became %v", want, got)
		}
		copy(l, was)
		for j := range got {
			got[j] = api.Inj{At: -9}
		}
		_ = append(got, api.Inj{At: -9})
		if !same(l, was) {
			t.Fatalf("%v became %v", was, l)
		}
	}
	// One kind alone: nothing is left out.
	l := []api.Inj{{Kind: crashI}, {Kind: crashI, Who: 1}}
	got := Instants(l...)
	if got[0].Who = 7; l[0].Who != 0 {
		t.Error("what is told is what was handed in")
	}
}

func TestActiveChangesNothing(t *testing.T) {
	for i := range uint64(50) {
		l, _, _ := Table(campaign(i, 3)...)
		was := slices.Clone(l)
		for _, x := range was {
			Active(l, x.Kind, x.Who, x.At)
		}
		Check(l...)
		Same(l, l)
		slices.Reverse(l)
		slices.Reverse(was)
		Check(l...)
		if !same(l, was) {
			t.Fatalf("%v became %v", was, l)
		}
	}
}
