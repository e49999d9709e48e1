package kernel

import (
	"cmp"
	"math"
	"slices"
	"testing"

	"pallet/api"
)

// order is the order's own words, field by field.
func order(a, b api.Item) int {
	return cmp.Or(
		cmp.Compare(a.At, b.At), cmp.Compare(a.Class, b.Class), cmp.Compare(a.Seq, b.Seq),
		cmp.Compare(a.What, b.What), cmp.Compare(a.Who, b.Who), cmp.Compare(a.N, b.N),
	)
}

// inOrder is a list's things in order.
func inOrder(l []api.Item) []api.Item {
	s := slices.Clone(l)
	slices.SortFunc(s, order)
	return s
}

// may is the chapter's own words of a queue that may be.
func may(q api.Queue) bool {
	if len(q.Heap) > 4096 || q.Now < 0 || q.Horizon < 0 || q.Now > 1<<60 || q.Horizon > 1<<60 || q.Now > q.Horizon {
		return false
	}
	for i, x := range q.Heap {
		if i > 0 && order(x, q.Heap[(i-1)/2]) < 0 {
			return false
		}
		if x.At < q.Now || x.At > 1<<60 || x.Class < 0 || x.Class > 15 || x.Seq >= q.Next {
			return false
		}
		for _, y := range q.Heap[:i] {
			if x.Seq == y.Seq {
				return false
			}
		}
	}
	return true
}

// equal tells whether two queues are the same place by place.
func equal(a, b api.Queue) bool {
	return a.Next == b.Next && a.Now == b.Now && a.Horizon == b.Horizon && slices.Equal(a.Heap, b.Heap)
}

// copied is a queue in memory of its own.
func copied(q api.Queue) api.Queue {
	q.Heap = slices.Clone(q.Heap)
	return q
}

// drawn tells number upon number, each below the one it is handed, by a simple rule.
func drawn(from uint64) func(below uint64) uint64 {
	x := from
	return func(below uint64) uint64 {
		x = x*6364136223846793005 + 1442695040888963407
		return x >> 33 % below
	}
}

// filled is a queue of n things in order, of which the one at a place has that place
// as its number.
func filled(n int) api.Queue {
	q := api.Queue{Next: uint64(n), Horizon: 1 << 40}
	for i := range n {
		q.Heap = append(q.Heap, api.Item{At: int64(i / 3), Class: i % 3, Seq: uint64(i), What: -i, Who: i * 5, N: uint64(i) << 50})
	}
	return q
}

// good are queues that may be, each at an edge of what may.
func good() []api.Queue {
	return []api.Queue{
		{},
		{Heap: []api.Item{}},
		{Next: 5},
		{Next: math.MaxUint64},
		{Now: 7, Horizon: 7},
		{Now: 6, Horizon: 7},
		{Now: 1 << 60, Horizon: 1 << 60},
		{Horizon: 1 << 60},
		{Next: 1, Heap: []api.Item{{}}},
		{Next: 1, Heap: []api.Item{{Class: 15}}},
		{Next: 2, Heap: []api.Item{{Seq: 1}}},
		{Next: math.MaxUint64, Heap: []api.Item{{Seq: math.MaxUint64 - 1}}},
		{Next: 1 << 63, Heap: []api.Item{{Seq: 1<<63 - 1}}},
		{Next: 1, Now: 3, Horizon: 3, Heap: []api.Item{{At: 3}}},
		{Next: 1, Now: 3, Horizon: 3, Heap: []api.Item{{At: 4}}},
		{Next: 1, Heap: []api.Item{{At: 1 << 60}}},
		{Next: 1, Now: 1 << 60, Horizon: 1 << 60, Heap: []api.Item{{At: 1 << 60}}},
		{Next: 2, Heap: []api.Item{{At: 5}, {At: 5, Seq: 1}}},
		{Next: 2, Heap: []api.Item{{At: 5, Seq: 1}, {At: 6}}},
		{Next: 3, Heap: []api.Item{{At: 1, Seq: 2}, {At: 9, Seq: 1}, {At: 4}}},
		{Next: 1, Heap: []api.Item{{What: math.MinInt, Who: math.MinInt, N: math.MaxUint64}}},
		{Next: 1, Heap: []api.Item{{What: math.MaxInt, Who: math.MaxInt}}},
		filled(api.MaxItems - 1),
		filled(api.MaxItems),
	}
}

// bad are queues that may not be, each by one thing that is amiss.
func bad() []api.Queue {
	l := []api.Queue{
		{Now: 1},
		{Now: -1},
		{Now: -1, Horizon: 9},
		{Horizon: -1},
		{Now: -2, Horizon: -1},
		{Now: 8, Horizon: 7},
		{Horizon: 1<<60 + 1},
		{Now: 1<<60 + 1, Horizon: 1<<60 + 1},
		{Now: 1<<60 + 1, Horizon: 1 << 60},
		{Horizon: math.MaxInt64},
		{Now: math.MinInt64},
		{Horizon: math.MinInt64},
		{Heap: []api.Item{{}}},
		{Next: 1, Heap: []api.Item{{Seq: 1}}},
		{Next: 1, Heap: []api.Item{{Seq: 2}}},
		{Next: math.MaxUint64, Heap: []api.Item{{Seq: math.MaxUint64}}},
		{Next: 1 << 63, Heap: []api.Item{{Seq: 1 << 63}}},
		{Next: 1, Heap: []api.Item{{Class: 16}}},
		{Next: 1, Heap: []api.Item{{Class: -1}}},
		{Next: 1, Heap: []api.Item{{Class: math.MaxInt}}},
		{Next: 1, Heap: []api.Item{{Class: math.MinInt}}},
		{Next: 1, Heap: []api.Item{{At: -1}}},
		{Next: 1, Heap: []api.Item{{At: math.MinInt64}}},
		{Next: 1, Heap: []api.Item{{At: 1<<60 + 1}}},
		{Next: 1, Heap: []api.Item{{At: math.MaxInt64}}},
		{Next: 1, Now: 3, Horizon: 9, Heap: []api.Item{{At: 2}}},
		{Next: 2, Heap: []api.Item{{At: 2}, {At: 1, Seq: 1}}},
		{Next: 2, Heap: []api.Item{{At: 2, Seq: 1}, {At: 2}}},
		{Next: 2, Heap: []api.Item{{At: 2, Class: 1}, {At: 2, Seq: 1}}},
		{Next: 9, Heap: []api.Item{{At: 1}, {At: 2}}},
		{Next: 9, Heap: []api.Item{{At: 1}, {At: 1}}},
		{Next: 9, Heap: []api.Item{{At: 1, Seq: 4}, {At: 2, Seq: 3}, {At: 1, Class: 1, Seq: 4}}},
		{Next: 9, Heap: []api.Item{{Seq: 0}, {At: 1, Seq: 8}, {At: 2, Seq: 9}}},
		{Next: 9, Heap: []api.Item{{Seq: 0}, {At: 1, Seq: 8}, {At: 2, Seq: 7, Class: 16}}},
		filled(api.MaxItems + 1),
		filled(2 * api.MaxItems),
	}
	for _, change := range []func(x *api.Item){
		func(x *api.Item) { x.Seq = 17 },
		func(x *api.Item) { x.Seq = api.MaxItems },
		func(x *api.Item) { x.Class = 16 },
		func(x *api.Item) { x.At = 1<<60 + 1 },
		func(x *api.Item) { x.At = 0; x.Class = 0 },
	} {
		q := filled(api.MaxItems)
		change(&q.Heap[api.MaxItems-1])
		l = append(l, q)
	}
	return l
}

// eachQueue hands in all queues of up to three things, by few times, classes and
// numbers, of which some may not be.
func eachQueue(call func(q api.Queue)) {
	var things []api.Item
	for _, at := range []int64{-1, 1, 2} {
		for _, class := range []int{0, 15, 16} {
			for seq := range uint64(3) {
				things = append(things, api.Item{At: at, Class: class, Seq: seq, N: 8})
			}
		}
	}
	heaps := [][]api.Item{nil}
	for from, many := 0, 0; many < 3; many++ {
		to := len(heaps)
		for _, h := range heaps[from:to] {
			for _, x := range things {
				heaps = append(heaps, append(slices.Clone(h), x))
			}
		}
		from = to
	}
	for _, h := range heaps {
		for _, q := range []api.Queue{{Next: 2, Now: 1, Horizon: 1}, {Next: 3, Now: 1, Horizon: 2}, {Next: 3, Now: 2, Horizon: 9}, {Next: 3}} {
			q.Heap = h
			call(q)
		}
	}
}

// P5.1

func TestNew(t *testing.T) {
	for _, horizon := range []int64{0, 1, 100, 1 << 50, 1<<60 - 1, 1 << 60} {
		q, e := New(horizon)
		if !equal(q, api.Queue{Horizon: horizon}) || e != api.OK || Check(q) != api.OK {
			t.Errorf("New(%d): got %v, %d", horizon, q, e)
		}
	}
	for _, horizon := range []int64{-1, -100, -1 << 60, -1<<60 - 1, 1<<60 + 1, math.MaxInt64, math.MinInt64} {
		if q, e := New(horizon); !equal(q, api.Queue{}) || e != api.ErrArg {
			t.Errorf("New(%d): got %v, %d", horizon, q, e)
		}
	}
}

func TestCheckByHand(t *testing.T) {
	for i, q := range good() {
		if e := Check(q); e != api.OK {
			t.Errorf("good %d: got %d", i, e)
		}
		if !may(q) {
			t.Errorf("good %d may not be", i)
		}
	}
	for i, q := range bad() {
		if e := Check(q); e != api.ErrArg {
			t.Errorf("bad %d: got %d", i, e)
		}
		if may(q) {
			t.Errorf("bad %d may be", i)
		}
	}
}

func TestCheckOfAllShortQueues(t *testing.T) {
	fine := 0
	eachQueue(func(q api.Queue) {
		e := Check(q)
		if may(q) {
			fine++
		}
		if may(q) != (e == api.OK) || e != api.OK && e != api.ErrArg {
			t.Fatalf("Check(%v): got %d", q, e)
		}
	})
	if fine < 100 {
		t.Errorf("only %d queues may be", fine)
	}
}

func TestTidy(t *testing.T) {
	look := func(q api.Queue) {
		want := copied(q)
		if may(q) {
			want.Heap = inOrder(q.Heap)
		}
		if got := Tidy(q); !equal(got, want) {
			t.Fatalf("Tidy(%v): got %v", q, got)
		}
	}
	eachQueue(look)
	for _, q := range slices.Concat(good(), bad()) {
		look(q)
	}
	// A heap of which no place but the first is in order.
	look(api.Queue{Next: 7, Horizon: 3, Heap: []api.Item{
		{At: 1, Seq: 3}, {At: 5, Seq: 1}, {At: 2, Seq: 2}, {At: 9, Seq: 0}, {At: 6, Seq: 6}, {At: 4, Seq: 5}, {At: 3, Seq: 4},
	}})
}

func TestSameByHand(t *testing.T) {
	q := api.Queue{Next: 9, Now: 2, Horizon: 50, Heap: []api.Item{
		{At: 3, Class: 1, Seq: 1, What: 4, Who: 5, N: 6}, {At: 8, Seq: 2}, {At: 9, Seq: 3},
	}}
	for i, change := range []func(q *api.Queue){
		func(q *api.Queue) { q.Next = 10 },
		func(q *api.Queue) { q.Next = 9 + 1<<63 },
		func(q *api.Queue) { q.Now = 1 },
		func(q *api.Queue) { q.Horizon = 51 },
		func(q *api.Queue) { q.Heap = nil },
		func(q *api.Queue) { q.Heap = q.Heap[:2] },
		func(q *api.Queue) { q.Heap = append(q.Heap, q.Heap[2]) },
		func(q *api.Queue) { q.Heap[1] = q.Heap[2] },
		func(q *api.Queue) { q.Heap[0].At = 2 },
		func(q *api.Queue) { q.Heap[0].Class = 0 },
		func(q *api.Queue) { q.Heap[0].Seq = 0 },
		func(q *api.Queue) { q.Heap[0].What = 3 },
		func(q *api.Queue) { q.Heap[0].Who = 4 },
		func(q *api.Queue) { q.Heap[0].N = 5 },
		func(q *api.Queue) { q.Heap[2].N = 1 },
	} {
		other := copied(q)
		change(&other)
		if Same(q, other) || Same(other, q) {
			t.Errorf("%d: the same", i)
		}
		if !Same(other, copied(other)) {
			t.Errorf("%d: not the same as itself", i)
		}
	}
	other := copied(q)
	other.Heap[1], other.Heap[2] = other.Heap[2], other.Heap[1]
	if !Same(q, other) || !Same(other, q) || !Same(q, Tidy(other)) {
		t.Error("not the same, of things that stand in another order")
	}
	if !Same(api.Queue{}, api.Queue{Heap: []api.Item{}}) {
		t.Error("not the same, of no things and no things")
	}
}

// Queues that may not be are the same by their parts and things, too.
func TestSameOfQueuesThatMayNotBe(t *testing.T) {
	all := slices.Concat(good(), bad())
	for i, a := range all {
		backward := copied(a)
		slices.Reverse(backward.Heap)
		if !Same(a, a) || !Same(a, backward) {
			t.Errorf("%d: not the same as itself", i)
		}
		for j, b := range all {
			want := a.Next == b.Next && a.Now == b.Now && a.Horizon == b.Horizon && slices.Equal(inOrder(a.Heap), inOrder(b.Heap))
			if Same(a, b) != want {
				t.Errorf("%d and %d: not %v", i, j, want)
			}
		}
	}
}
