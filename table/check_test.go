package table

import (
	"math"
	"slices"
	"testing"

	"pallet/api"
)

// P18.1: Check, Same

func TestCheckByHand(t *testing.T) {
	for i, x := range []struct {
		l []api.Inj
		e api.Errno
	}{
		{nil, okE},
		{[]api.Inj{}, okE},
		{[]api.Inj{{Kind: silenceI}}, okE},
		{[]api.Inj{{Kind: corruptI, Who: 15, At: 1, Until: maxTime}}, okE},
		{[]api.Inj{{Kind: cutI, Who: 1, At: maxTime, Until: maxTime}}, okE},
		{[]api.Inj{{Kind: babbleI, Who: 15, At: maxTime, Until: maxTime}}, okE},
		{[]api.Inj{{Kind: crashI, At: 5, Until: 5}}, okE},
		{[]api.Inj{{Kind: crashI, At: 5, Until: 5}, {Kind: crashI, At: 5, Until: 5}}, okE},
		{[]api.Inj{{}}, argE},
		{[]api.Inj{{Kind: -1}}, argE},
		{[]api.Inj{{Kind: 6}}, argE},
		{[]api.Inj{{Kind: crashI, At: 5}}, argE},
		{[]api.Inj{{Kind: crashI, At: 5, Until: 6}}, argE},
		{[]api.Inj{{Kind: babbleI, Until: 1}}, argE},
		{[]api.Inj{{Kind: silenceI, At: 5, Until: 4}}, argE},
		{[]api.Inj{{Kind: silenceI, Until: maxTime + 1}}, argE},
		{[]api.Inj{{Kind: silenceI, At: -1}}, argE},
		{[]api.Inj{{Kind: silenceI, At: -1, Until: -1}}, argE},
		{[]api.Inj{{Kind: silenceI, Who: 16}}, argE},
		{[]api.Inj{{Kind: silenceI, Who: -1}}, argE},
		{[]api.Inj{{Kind: cutI, Who: 2}}, argE},
		{[]api.Inj{{Kind: cutI, Who: -1}}, argE},
		{[]api.Inj{{Kind: crashI, Who: 16}}, argE},
		// Each of the four tells of two which one comes ahead, where those ahead of it are the same.
		{[]api.Inj{{Kind: crashI, Who: 9, At: 1, Until: 1}, {Kind: silenceI, At: 2, Until: 2}}, okE},
		{[]api.Inj{{Kind: silenceI, Who: 9, Until: 9}, {Kind: corruptI}}, okE},
		{[]api.Inj{{Kind: silenceI, Until: 9}, {Kind: silenceI, Who: 1}}, okE},
		{[]api.Inj{{Kind: silenceI, Until: 8}, {Kind: silenceI, Until: 9}}, okE},
		{[]api.Inj{{Kind: silenceI, At: 2, Until: 2}, {Kind: crashI, Who: 9, At: 1, Until: 1}}, argE},
		{[]api.Inj{{Kind: corruptI}, {Kind: silenceI, Who: 9, Until: 9}}, argE},
		{[]api.Inj{{Kind: silenceI, Who: 1}, {Kind: silenceI, Until: 9}}, argE},
		{[]api.Inj{{Kind: silenceI, Until: 9}, {Kind: silenceI, Until: 8}}, argE},
	} {
		if got := Check(x.l...); got != x.e {
			t.Errorf("%d: Check(%v): got %d, want %d", i, x.l, got, x.e)
		}
		checkInj(t, x.l)
	}
}

// edges are numbers about those from which, and to which, something is to be.
var edges = []int64{math.MinInt64, -maxTime - 1, -maxTime, -1, 0, 1, 5, maxHorizon, maxTime - 1, maxTime, maxTime + 1, math.MaxInt64}

// Each injection of these numbers, alone, and behind one that may be.
func TestEachInjection(t *testing.T) {
	met := map[api.Errno]int{}
	for _, kind := range []int{math.MinInt, -1, 0, 1, 2, 3, 4, 5, 6, 7, 11, math.MaxInt} {
		for _, who := range []int{math.MinInt, -1, 0, 1, 2, 3, 14, 15, 16, math.MaxInt} {
			for _, at := range edges {
				for _, until := range edges {
					x := api.Inj{At: at, Kind: kind, Who: who, Until: until}
					met[checkInj(t, []api.Inj{x})]++
					checkInj(t, []api.Inj{{Kind: silenceI}, x})
					checkInj(t, []api.Inj{x, {Kind: crashI, Who: 15, At: maxTime, Until: maxTime}})
				}
			}
		}
	}
	if met[okE] < 300 || met[argE] < 5000 {
		t.Errorf("met are %v", met)
	}
}

// fewer are some injections that may be, each by itself.
func fewer() []api.Inj {
	var l []api.Inj
	for at := range int64(2) {
		for _, x := range []api.Inj{{Kind: silenceI}, {Kind: silenceI, Until: 1}, {Kind: silenceI, Who: 1}, {Kind: corruptI}, {Kind: cutI}, {Kind: cutI, Who: 1, Until: 1}, {Kind: babbleI}, {Kind: crashI}, {Kind: crashI, Who: 1}} {
			x.At += at
			x.Until += at
			l = append(l, x)
		}
	}
	return l
}

// Any two, and any three, of some: they may be just if they are in order.
func TestEachOrder(t *testing.T) {
	some := fewer()
	met := map[api.Errno]int{}
	for i, x := range some {
		for j, y := range some {
			e := checkInj(t, []api.Inj{x, y})
			if (e == okE) != (i <= j && !comesAhead(y, x) || x == y || comesAhead(x, y)) {
				t.Fatalf("%v, %v: got %d", x, y, e)
			}
			for _, z := range some {
				met[checkInj(t, []api.Inj{x, y, z})]++
			}
		}
	}
	if met[okE] < 500 || met[argE] < 2000 {
		t.Errorf("met are %v", met)
	}
}

func TestCheckOfMany(t *testing.T) {
	for many := 498; many < 503; many++ {
		l := slices.Repeat([]api.Inj{{Kind: crashI}}, many)
		if e := checkInj(t, l); (e == okE) != (many <= maxInj) {
			t.Errorf("%d: got %d", many, e)
		}
		for i := range l {
			l[i].At, l[i].Until = int64(i), int64(i)
		}
		checkInj(t, l)
	}
	// One of many, wherever it stands.
	l := slices.Repeat([]api.Inj{{Kind: corruptI, Who: 3, At: 5, Until: 7}}, maxInj)
	for at := range l {
		was := l[at]
		for _, x := range []api.Inj{{Kind: corruptI, Who: 3, At: 5, Until: 8}, {Kind: corruptI, Who: 3, At: 5, Until: 6}, {Kind: corruptI, Who: 16, At: 5, Until: 7}, {Kind: babbleI, Who: 3, At: 5, Until: 7}} {
			l[at] = x
			checkInj(t, l)
		}
		l[at] = was
	}
}

func TestCheckOfDrawnTables(t *testing.T) {
	for i := range uint64(200) {
		l, _, _ := Table(campaign(i, 3)...)
		if e := checkInj(t, l); e != okE {
			t.Fatalf("%d: got %d", i, e)
		}
		for j := range l {
			was := l[j]
			l[j].At++
			checkInj(t, l)
			l[j].At -= 2
			checkInj(t, l)
			l[j] = was
			l[j].Who++
			checkInj(t, l)
			l[j] = was
			l[j].Until--
			checkInj(t, l)
			l[j] = was
		}
		slices.Reverse(l)
		checkInj(t, l)
	}
}

func TestSame(t *testing.T) {
	some := append(fewer(), api.Inj{}, api.Inj{At: math.MinInt64, Kind: -5, Who: math.MaxInt, Until: 3})
	for i, x := range some {
		for j, y := range some {
			for _, is := range []struct{ a, b []api.Inj }{{[]api.Inj{x}, []api.Inj{y}}, {[]api.Inj{x, y}, []api.Inj{y, x}}, {[]api.Inj{x, x}, []api.Inj{x, y}}, {[]api.Inj{y, x}, []api.Inj{x, x}}} {
				if Same(is.a, is.b) != (i == j) {
					t.Errorf("Same(%v, %v): got %v", is.a, is.b, i != j)
				}
			}
		}
		if Same([]api.Inj{x}, nil) || Same(nil, []api.Inj{x}) || Same([]api.Inj{x}, []api.Inj{x, x}) || Same([]api.Inj{x, x}, []api.Inj{x}) {
			t.Errorf("%v: of one more, or of one less", x)
		}
	}
	if !Same(nil, []api.Inj{}) || !Same([]api.Inj{}, nil) || !Same(nil, nil) {
		t.Error("of none and none")
	}
	l := slices.Repeat(some, 40)
	for at := range l {
		other := slices.Clone(l)
		if !Same(l, other) {
			t.Fatal("of a list and itself")
		}
		for _, how := range []func(x *api.Inj){func(x *api.Inj) { x.At++ }, func(x *api.Inj) { x.Kind++ }, func(x *api.Inj) { x.Who++ }, func(x *api.Inj) { x.Until++ }} {
			other[at] = l[at]
			how(&other[at])
			if Same(l, other) || Same(other, l) {
				t.Fatalf("%d: of another one", at)
			}
		}
	}
}
