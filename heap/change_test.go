package heap

import (
	"math"
	"slices"
	"testing"

	"pallet/api"
)

// holds tells whether h is a heap of those things that are, in order, want.
func holds(h, want []api.Item) bool {
	return isHeap(h) && slices.Equal(inOrder(h), want)
}

// but is a list without the thing at a place.
func but(l []api.Item, at int) []api.Item {
	return slices.Delete(slices.Clone(l), at, at+1)
}

// taken is what Take must answer of things in order: the first one of that number,
// the others, and whether there is one.
func taken(s []api.Item, seq uint64) (api.Item, []api.Item, bool) {
	for i, x := range s {
		if x.Seq == seq {
			return x, but(s, i), true
		}
	}
	return api.Item{}, nil, false
}

// noHeaps are lists that are none: by their order, and by how long they are.
func noHeaps() [][]api.Item {
	late := make([]api.Item, api.MaxItems)
	late[api.MaxItems-1].At = -1
	return [][]api.Item{
		{{At: 2}, {At: 1}},
		{{At: 1}, {At: 2}, {}},
		{{N: 1}, {}},
		{{At: 1}, {At: 3}, {At: 2}, {At: 2}},
		late,
		make([]api.Item, api.MaxItems+1),
		make([]api.Item, 2*api.MaxItems),
	}
}

// P4.2

func TestBuildOfAllShortLists(t *testing.T) {
	eachList(6, some, func(l []api.Item) {
		if h, e := Build(l...); !holds(h, inOrder(l)) || e != api.OK {
			t.Fatalf("Build(%v): got %v, %d", l, h, e)
		}
	})
}

func TestBuildOfLongLists(t *testing.T) {
	for _, n := range []int{7, 8, 15, 16, 17, 1000, api.MaxItems - 1, api.MaxItems} {
		for _, numbers := range []uint64{1, 2, 1 << 30} {
			l := drawn(n, numbers, 5)
			want := inOrder(l)
			for _, x := range [][]api.Item{l, want, backward(want)} {
				was := slices.Clone(x)
				if h, e := Build(x...); !holds(h, want) || e != api.OK {
					t.Errorf("%d things of %d numbers: got %d, %d", n, numbers, len(h), e)
				}
				if !slices.Equal(x, was) {
					t.Errorf("%d things of %d numbers are changed", n, numbers)
				}
			}
		}
	}
}

func backward(l []api.Item) []api.Item {
	l = slices.Clone(l)
	slices.Reverse(l)
	return l
}

func TestBuildOfTooMany(t *testing.T) {
	for _, n := range []int{api.MaxItems + 1, 2 * api.MaxItems} {
		if h, e := Build(make([]api.Item, n)...); h != nil || e != api.ErrFull {
			t.Errorf("%d things: got %d, %d", n, len(h), e)
		}
	}
	if h, e := Build(); len(h) != 0 || e != api.OK {
		t.Errorf("none: got %v, %d", h, e)
	}
}

// changes are all that a heap may become by one call: with each thing more, without
// the first, without the one of each number.
func changes(t *testing.T, h []api.Item) {
	t.Helper()
	s := inOrder(h)
	for _, x := range append(slices.Clone(some), api.Item{}, api.Item{At: 1, Class: 2, Seq: 3, Who: 1}, api.Item{At: 9}) {
		if l, e := Push(h, x); !holds(l, inOrder(append(slices.Clone(h), x))) || e != api.OK {
			t.Fatalf("Push(%v, %v): got %v, %d", h, x, l, e)
		}
	}
	if len(h) > 0 {
		if x, l, e := Pop(h); x != s[0] || !holds(l, s[1:]) || e != api.OK {
			t.Fatalf("Pop(%v): got %v, %v, %d", h, x, l, e)
		}
	}
	for seq := uint64(2); seq < 6; seq++ {
		x, l, e := Take(h, seq)
		first, others, is := taken(s, seq)
		if x != first || is != (e == api.OK) {
			t.Fatalf("Take(%v, %d): got %v, %d", h, seq, x, e)
		}
		if is && !holds(l, others) {
			t.Fatalf("Take(%v, %d): got %v", h, seq, l)
		}
		if !is && (l != nil || e != api.ErrNone) {
			t.Fatalf("Take(%v, %d): got %v, %d", h, seq, l, e)
		}
	}
}

func TestChangesOfAllShortHeaps(t *testing.T) {
	eachList(7, some, func(l []api.Item) {
		if isHeap(l) {
			changes(t, l)
		}
	})
}

// unlike is a heap of n things, by numbers of their own, in which the two sides
// below the first differ much: what comes last on the one comes ahead of nearly all
// of the other.
func unlike(n int) []api.Item {
	h := make([]api.Item, n)
	for i := range h {
		h[i] = api.Item{At: int64(i), Seq: uint64(i)}
		side := i
		for side > 2 {
			side = (side - 1) / 2
		}
		if side == 1 {
			h[i].At += 1000
		}
	}
	return h
}

// What takes the place of a thing may have to go up there, or down.
func TestTakeFromEachPlace(t *testing.T) {
	for n := range 70 {
		for _, h := range [][]api.Item{unlike(n), numbered(inOrder(drawn(n, 1<<20, 6)))} {
			if !isHeap(h) {
				t.Fatalf("%d things are no heap", n)
			}
			for i, x := range h {
				got, l, e := Take(h, x.Seq)
				if got != x || !holds(l, inOrder(but(h, i))) || e != api.OK {
					t.Fatalf("from place %d of %d: got %v, %v, %d", i, n, got, l, e)
				}
			}
			if x, l, e := Take(h, uint64(n)); x != (api.Item{}) || l != nil || e != api.ErrNone {
				t.Errorf("a number that none of %d has: got %v, %v, %d", n, x, l, e)
			}
		}
	}
}

// numbered gives each thing of a heap a number and a time of its own.
func numbered(h []api.Item) []api.Item {
	for i := range h {
		h[i].Seq = uint64(i)
		h[i].At += int64(i)
	}
	return h
}

// Of some with one number the first that comes is taken, wherever it stands.
func TestTakeTheFirstOfOneNumber(t *testing.T) {
	h := []api.Item{{At: 1, Seq: 1}, {At: 7, Seq: 2}, {At: 2, Seq: 1}, {At: 8, Seq: 2}, {At: 9, Seq: 2}, {At: 5, Seq: 2}, {At: 6, Seq: 2}}
	s := inOrder(h)
	for _, at := range []int64{5, 6, 7, 8, 9} {
		x, l, e := Take(h, 2)
		_, want, _ := taken(s, 2)
		if x.At != at || x.Seq != 2 || !holds(l, want) || e != api.OK {
			t.Fatalf("Take(%v, 2): got %v, %v, %d", h, x, l, e)
		}
		h, s = l, want
	}
	if x, l, e := Take(h, 2); x != (api.Item{}) || l != nil || e != api.ErrNone {
		t.Errorf("got %v, %v, %d", x, l, e)
	}
	// Of the same time, the later fields tell.
	h = []api.Item{{Seq: 1}, {At: 3, Seq: 4, N: 2}, {At: 3, Seq: 4, N: 1}}
	if x, l, e := Take(h, 4); x != h[2] || !holds(l, h[:2]) || e != api.OK {
		t.Errorf("got %v, %v, %d", x, l, e)
	}
	// Of things that are wholly the same, one is taken, the other is left.
	h = []api.Item{{Seq: math.MaxUint64}, {Seq: math.MaxUint64}}
	if x, l, e := Take(h, math.MaxUint64); x != h[0] || !holds(l, h[:1]) || e != api.OK {
		t.Errorf("got %v, %v, %d", x, l, e)
	}
}

func TestOfNoHeap(t *testing.T) {
	for i, h := range noHeaps() {
		if l, e := Push(h, api.Item{At: 5}); l != nil || e != api.ErrArg {
			t.Errorf("%d: Push: got %d things, %d", i, len(l), e)
		}
		if x, l, e := Pop(h); x != (api.Item{}) || l != nil || e != api.ErrArg {
			t.Errorf("%d: Pop: got %v, %d things, %d", i, x, len(l), e)
		}
		// Whether or not there is a thing of that number.
		for _, seq := range []uint64{0, 77} {
			if x, l, e := Take(h, seq); x != (api.Item{}) || l != nil || e != api.ErrArg {
				t.Errorf("%d: Take: got %v, %d things, %d", i, x, len(l), e)
			}
		}
	}
}

func TestOfNone(t *testing.T) {
	for _, h := range [][]api.Item{nil, {}} {
		if x, l, e := Pop(h); x != (api.Item{}) || l != nil || e != api.ErrNone {
			t.Errorf("Pop: got %v, %v, %d", x, l, e)
		}
		if x, l, e := Take(h, 0); x != (api.Item{}) || l != nil || e != api.ErrNone {
			t.Errorf("Take: got %v, %v, %d", x, l, e)
		}
		if l, e := Push(h, some[3]); !slices.Equal(l, some[3:]) || e != api.OK {
			t.Errorf("Push: got %v, %d", l, e)
		}
	}
	if x, l, e := Pop(some[3:]); x != some[3] || len(l) != 0 || e != api.OK {
		t.Errorf("Pop of one: got %v, %v, %d", x, l, e)
	}
	if x, l, e := Take(some[3:], 3); x != some[3] || len(l) != 0 || e != api.OK {
		t.Errorf("Take of one: got %v, %v, %d", x, l, e)
	}
}

// A heap of MaxItems has room for none, and loses one as any other does.
func TestOfTheLongest(t *testing.T) {
	s := inOrder(drawn(api.MaxItems, 1<<30, 7))
	first := s[0]
	first.At--
	if l, e := Push(s, first); l != nil || e != api.ErrFull {
		t.Errorf("Push: got %d things, %d", len(l), e)
	}
	if l, e := Push(s[1:], s[0]); !holds(l, s) || e != api.OK {
		t.Errorf("Push of the last that has room: got %d things, %d", len(l), e)
	}
	if x, l, e := Pop(s); x != s[0] || !holds(l, s[1:]) || e != api.OK {
		t.Errorf("Pop: got %v, %d things, %d", x, len(l), e)
	}
	for _, at := range []int{0, 1, 2047, 2048, 4094, 4095} {
		seq := s[at].Seq
		want, others, _ := taken(s, seq)
		if x, l, e := Take(s, seq); x != want || !holds(l, others) || e != api.OK {
			t.Errorf("Take of the one at %d: got %v, %d things, %d", at, x, len(l), e)
		}
	}
}

// What is told is new: nothing is written into what was handed in, nor behind it,
// and neither changes with the other.
func TestToldIsNew(t *testing.T) {
	x := api.Item{At: -4, Seq: 9}
	for _, c := range []struct {
		name string
		call func(h []api.Item) []api.Item
	}{
		{"Sorted", func(h []api.Item) []api.Item { return Sorted(h...) }},
		{"Build", func(h []api.Item) []api.Item { l, _ := Build(h...); return l }},
		{"Push", func(h []api.Item) []api.Item { l, _ := Push(h, x); return l }},
		{"Pop", func(h []api.Item) []api.Item { _, l, _ := Pop(h); return l }},
		{"Take the first", func(h []api.Item) []api.Item { _, l, _ := Take(h, 0); return l }},
		{"Take the second", func(h []api.Item) []api.Item { _, l, _ := Take(h, 1); return l }},
		{"Take the last", func(h []api.Item) []api.Item { _, l, _ := Take(h, uint64(len(h)-1)); return l }},
	} {
		for n := 1; n < 20; n++ {
			whole := append(unlike(n), x, x, x)
			was := slices.Clone(whole)
			got := c.call(whole[:n])
			told := slices.Clone(got)
			if !slices.Equal(whole, was) {
				t.Errorf("%s of %d: what was handed in became %v", c.name, n, whole)
			}
			for i := range whole {
				whole[i] = api.Item{At: 99}
			}
			if !slices.Equal(got, told) {
				t.Errorf("%s of %d: the answer shares memory with what was handed in", c.name, n)
			}
			was = slices.Clone(whole)
			got = got[:cap(got)]
			for i := range got {
				got[i] = api.Item{At: 33}
			}
			if !slices.Equal(whole, was) {
				t.Errorf("%s of %d: what was handed in shares memory with the answer", c.name, n)
			}
		}
	}
}

// P4.3

func TestPushedComeInOrder(t *testing.T) {
	for _, numbers := range []uint64{1, 2, 3, 1 << 30} {
		l := drawn(300, numbers, 8)
		want := inOrder(l)
		for _, x := range [][]api.Item{l, want, backward(want)} {
			var h []api.Item
			for _, y := range x {
				h, _ = Push(h, y)
			}
			for i, y := range want {
				got, left, e := Pop(h)
				if got != y || e != api.OK {
					t.Fatalf("of %d numbers, %d: got %v, %d, not %v", numbers, i, got, e, y)
				}
				h = left
			}
			if len(h) != 0 {
				t.Errorf("of %d numbers: %v are left", numbers, h)
			}
		}
	}
}

// Things are pushed, popped and taken as it comes, held against a list in order;
// in the middle of it the heap is built anew of what it has.
func TestWhateverComesBetween(t *testing.T) {
	for _, numbers := range []uint64{1, 2, 5, 1 << 30} {
		var h, s []api.Item
		for i, x := range drawn(4000, numbers, 9) {
			e := api.OK
			var got, want api.Item
			switch roll := (uint64(x.At) ^ x.N ^ uint64(i)*7) % 8; {
			case roll < 4 || len(s) == 0:
				h, e = Push(h, x)
				s = inOrder(append(s, x))
			case roll < 6:
				got, h, e = Pop(h)
				want, s = s[0], s[1:]
			case roll < 7:
				seq := s[len(s)/2].Seq
				got, h, e = Take(h, seq)
				want, s, _ = taken(s, seq)
			default:
				h, e = Build(h...)
			}
			if got != want || e != api.OK || !holds(h, s) {
				t.Fatalf("of %d numbers, %d: got %v, %d, not %v", numbers, i, got, e, want)
			}
		}
	}
}

func TestExampleOfTheChapter(t *testing.T) {
	var h []api.Item
	for _, at := range []int64{3, 1, 2} {
		h, _ = Push(h, api.Item{At: at})
	}
	if x, _, e := Pop(h); x.At != 1 || e != api.OK {
		t.Errorf("got %v, %d", x, e)
	}
}
