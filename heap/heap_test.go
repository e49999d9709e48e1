package heap

import (
	"cmp"
	"math"
	"slices"
	"testing"

	"pallet/api"
)

// order is the order's own words, field by field.
func order(a, b api.Item) int {
	return cmp.Or(
		cmp.Compare(a.At, b.At), cmp.Compare(a.Class, b.Class), cmp.Compare(a.Seq, b.Seq),
		cmp.Compare(a.What, b.What), cmp.Compare(a.Who, b.Who), cmp.Compare(a.N, b.N),
	)
}

// isHeap is a heap's own words.
func isHeap(h []api.Item) bool {
	if len(h) > 4096 {
		return false
	}
	for i := 1; i < len(h); i++ {
		if order(h[i], h[(i-1)/2]) < 0 {
			return false
		}
	}
	return true
}

// inOrder is a list's things in order, put one by one where they belong.
func inOrder(l []api.Item) []api.Item {
	var s []api.Item
	for _, x := range l {
		at, _ := slices.BinarySearchFunc(s, x, order)
		s = slices.Insert(s, at, x)
	}
	return s
}

// drawn is a list of n things that come of a simple rule. The fewer numbers there
// are to draw from, the more things are the same but for a later field, or wholly.
func drawn(n int, numbers, from uint64) []api.Item {
	x := from
	next := func() uint64 {
		x = x*6364136223846793005 + 1442695040888963407
		return x >> 33 % numbers
	}
	l := make([]api.Item, n)
	for i := range l {
		l[i] = api.Item{
			At: int64(next()) - int64(numbers/2), Class: int(next()), Seq: next(),
			What: int(next()) - 1, Who: int(next()), N: next(),
		}
	}
	return l
}

// eachList hands in all lists of up to many things, each one of those given.
func eachList(many int, of []api.Item, call func(l []api.Item)) {
	call(nil)
	var l []api.Item
	var more func()
	more = func() {
		if len(l) == many {
			return
		}
		for _, x := range of {
			l = append(l, x)
			call(l)
			more()
			l = l[:len(l)-1]
		}
	}
	more()
}

// some are four things, of which each two differ in another field.
var some = []api.Item{
	{At: 1, Class: 2, Seq: 3},
	{At: 1, Class: 2, Seq: 4},
	{At: 1, Class: 3, Seq: 3},
	{At: 2, Class: 1, Seq: 3, N: 9},
}

// P4.1

func TestLessByHand(t *testing.T) {
	for i, x := range []struct{ a, b api.Item }{
		{api.Item{At: 1}, api.Item{At: 2}},
		{api.Item{At: -2}, api.Item{At: -1}},
		{api.Item{At: -1}, api.Item{}},
		{api.Item{At: math.MinInt64}, api.Item{At: math.MaxInt64}},
		{api.Item{Class: math.MinInt}, api.Item{Class: math.MaxInt}},
		{api.Item{Seq: 0}, api.Item{Seq: math.MaxUint64}},
		{api.Item{Seq: math.MaxInt64}, api.Item{Seq: 1 << 63}},
		{api.Item{What: math.MinInt}, api.Item{What: math.MaxInt}},
		{api.Item{Who: math.MinInt}, api.Item{Who: math.MaxInt}},
		{api.Item{N: 0}, api.Item{N: math.MaxUint64}},
		{api.Item{N: math.MaxInt64}, api.Item{N: 1 << 63}},
		// Whatever the later fields are, the earlier one tells.
		{api.Item{At: 1, Class: 9, Seq: 9, What: 9, Who: 9, N: 9}, api.Item{At: 2}},
		{api.Item{At: 5, Class: 1, Seq: 9, What: 9, Who: 9, N: 9}, api.Item{At: 5, Class: 2}},
		{api.Item{At: 5, Class: 5, Seq: 1, What: 9, Who: 9, N: 9}, api.Item{At: 5, Class: 5, Seq: 2}},
		{api.Item{At: 5, Class: 5, Seq: 5, What: 1, Who: 9, N: 9}, api.Item{At: 5, Class: 5, Seq: 5, What: 2}},
		{api.Item{At: 5, Class: 5, Seq: 5, What: 5, Who: 1, N: 9}, api.Item{At: 5, Class: 5, Seq: 5, What: 5, Who: 2}},
		{api.Item{At: 5, Class: 5, Seq: 5, What: 5, Who: 5, N: 1}, api.Item{At: 5, Class: 5, Seq: 5, What: 5, Who: 5, N: 2}},
	} {
		if !Less(x.a, x.b) {
			t.Errorf("%d: %v does not come ahead of %v", i, x.a, x.b)
		}
		if Less(x.b, x.a) {
			t.Errorf("%d: %v comes ahead of %v", i, x.b, x.a)
		}
		if Less(x.a, x.a) || Less(x.b, x.b) {
			t.Errorf("%d: one comes ahead of itself", i)
		}
	}
}

func TestLessOfAll(t *testing.T) {
	var l []api.Item
	for i := range 64 {
		l = append(l, api.Item{
			At: int64(i & 1), Class: i >> 1 & 1, Seq: uint64(i >> 2 & 1),
			What: i >> 3 & 1, Who: i >> 4 & 1, N: uint64(i >> 5),
		})
	}
	l = slices.Concat(l, drawn(100, 3, 1), drawn(100, 1<<30, 2))
	for _, a := range l {
		for _, b := range l {
			if got, want := Less(a, b), order(a, b) < 0; got != want {
				t.Fatalf("Less(%v, %v) is %v", a, b, got)
			}
		}
	}
}

func TestCheckByHand(t *testing.T) {
	at := func(times ...int64) []api.Item {
		var l []api.Item
		for _, x := range times {
			l = append(l, api.Item{At: x})
		}
		return l
	}
	for i, x := range []struct {
		h    []api.Item
		want bool
	}{
		{nil, true},
		{[]api.Item{}, true},
		{at(7), true},
		{at(7, 7), true},
		{at(7, 8), true},
		{at(8, 7), false},
		{at(1, 3, 2), true},
		{at(1, 2, 3), true},
		{at(2, 3, 1), false},
		{at(2, 1, 3), false},
		// A thing is held against the one above it, not against the one before.
		{at(1, 5, 2, 6, 7, 3, 4), true},
		{at(1, 5, 2, 4), false},
		{at(1, 5, 2, 6, 4), false},
		{at(1, 2, 5, 3, 4, 4), false},
		{at(1, 2, 5, 3, 4, 5, 4), false},
		{[]api.Item{{At: 1, N: 2}, {At: 1, N: 1}}, false},
		{[]api.Item{{At: 1, N: 1}, {At: 1, N: 2}}, true},
	} {
		if Check(x.h...) != x.want {
			t.Errorf("%d: Check(%v) is not %v", i, x.h, x.want)
		}
	}
	if !Check() {
		t.Error("none is no heap")
	}
	if !Check(some[0], some[1], some[2], some[3]) || Check(some[1], some[0]) {
		t.Error("things one by one")
	}
}

func TestCheckOfAllShortLists(t *testing.T) {
	eachList(7, some, func(l []api.Item) {
		if got, want := Check(l...), isHeap(l); got != want {
			t.Fatalf("Check(%v) is %v", l, got)
		}
	})
}

// Each place of the longest heap counts, and no list is one that is longer.
func TestCheckOfTheLongest(t *testing.T) {
	l := inOrder(drawn(api.MaxItems, 1<<20, 3))
	if !Check(l...) {
		t.Error("MaxItems things in order are no heap")
	}
	for i := 1; i < len(l); i++ {
		was := l[i]
		l[i] = l[(i-1)/2]
		l[i].At--
		if Check(l...) {
			t.Errorf("a heap, though the thing at %d comes ahead of the one above", i)
		}
		l[i] = was
	}
	for _, n := range []int{api.MaxItems + 1, api.MaxItems + 2, 2 * api.MaxItems} {
		if Check(make([]api.Item, n)...) {
			t.Errorf("%d things are a heap", n)
		}
	}
}

func TestSortedByHand(t *testing.T) {
	if l := Sorted(); len(l) != 0 {
		t.Errorf("of none: got %v", l)
	}
	l := Sorted(api.Item{At: 3}, api.Item{At: 1, N: 2}, api.Item{At: 2}, api.Item{At: 1, N: 2}, api.Item{At: 1, N: 1})
	want := []api.Item{{At: 1, N: 1}, {At: 1, N: 2}, {At: 1, N: 2}, {At: 2}, {At: 3}}
	if !slices.Equal(l, want) {
		t.Errorf("got %v", l)
	}
}

func TestSortedOfAllShortLists(t *testing.T) {
	eachList(6, some, func(l []api.Item) {
		if got, want := Sorted(l...), inOrder(l); !slices.Equal(got, want) {
			t.Fatalf("Sorted(%v): got %v", l, got)
		}
	})
}

// Any list is sorted, be it no heap, or longer than one may be.
func TestSortedOfLongLists(t *testing.T) {
	for _, n := range []int{11, 12, 13, 50, 1000, api.MaxItems, api.MaxItems + 1, 3 * api.MaxItems} {
		for _, numbers := range []uint64{1, 2, 3, 1 << 30} {
			l := drawn(n, numbers, 4)
			was := slices.Clone(l)
			if got, want := Sorted(l...), inOrder(l); !slices.Equal(got, want) {
				t.Errorf("%d things of %d numbers are not sorted", n, numbers)
			}
			if !slices.Equal(l, was) {
				t.Errorf("%d things of %d numbers are changed", n, numbers)
			}
		}
	}
}

func TestFindByHand(t *testing.T) {
	long := make([]api.Item, api.MaxItems+5)
	long[api.MaxItems+3].Seq = 8
	long[api.MaxItems+4].Seq = 8
	for i, x := range []struct {
		h    []api.Item
		seq  uint64
		want int
		is   bool
	}{
		{nil, 0, 0, false},
		{[]api.Item{}, 0, 0, false},
		{[]api.Item{{}}, 0, 0, true},
		{[]api.Item{{}}, 1, 0, false},
		{[]api.Item{{Seq: 5}, {Seq: 6}, {Seq: 7}}, 5, 0, true},
		{[]api.Item{{Seq: 5}, {Seq: 6}, {Seq: 7}}, 6, 1, true},
		{[]api.Item{{Seq: 5}, {Seq: 6}, {Seq: 7}}, 7, 2, true},
		{[]api.Item{{Seq: 5}, {Seq: 6}, {Seq: 7}}, 8, 0, false},
		{[]api.Item{{Seq: 5}, {Seq: 6}, {Seq: 7}}, 0, 0, false},
		// The first place, not the first that comes.
		{[]api.Item{{Seq: 1}, {At: 9, Seq: 2}, {At: 3, Seq: 2}}, 2, 1, true},
		{[]api.Item{{At: 9, Seq: 2}, {Seq: 1}, {At: 3, Seq: 2}}, 2, 0, true},
		// Other fields are none.
		{[]api.Item{{At: 4, Class: 4, What: 4, Who: 4, N: 4}}, 4, 0, false},
		{[]api.Item{{Seq: math.MaxUint64}}, math.MaxUint64, 0, true},
		{[]api.Item{{}, {Seq: math.MaxUint64}}, math.MaxUint64, 1, true},
		{[]api.Item{{Seq: math.MaxUint64}}, 1<<63 - 1, 0, false},
		{long, 8, api.MaxItems + 3, true},
		{long, 9, 0, false},
	} {
		if at, is := Find(x.h, x.seq); at != x.want || is != x.is {
			t.Errorf("%d: Find(.., %d): got %d, %v", i, x.seq, at, is)
		}
	}
}
