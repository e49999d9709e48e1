package kernel

import (
	"math"
	"slices"
	"testing"

	"pallet/api"
)

// as tells whether q may be, and is, but for the order of its heap, as want.
func as(q, want api.Queue) bool {
	q.Heap, want.Heap = slices.Clone(q.Heap), inOrder(want.Heap)
	is := may(q)
	q.Heap = inOrder(q.Heap)
	return is && equal(q, want)
}

// without is a list without the thing of that number, and whether there is one.
func without(l []api.Item, seq uint64) ([]api.Item, bool) {
	at := slices.IndexFunc(l, func(x api.Item) bool { return x.Seq == seq })
	if at < 0 {
		return l, false
	}
	return slices.Delete(slices.Clone(l), at, at+1), true
}

// P5.2

// postError is the error that Post must answer, by the chapter's own words.
func postError(q api.Queue, at int64, class int) api.Errno {
	switch {
	case !may(q), at < -1<<60, at > 1<<60, class < 0, class > 15:
		return api.ErrArg
	case at < q.Now:
		return api.ErrOver
	case len(q.Heap) >= 4096, q.Next == 1<<64-1:
		return api.ErrFull
	}
	return api.OK
}

func post(t *testing.T, q api.Queue, at int64, class, what, who int, n uint64) {
	t.Helper()
	got, token, e := Post(q, at, class, what, who, n)
	want := copied(q)
	if f := postError(q, at, class); f != api.OK {
		if e != f || token != 0 || !equal(got, want) {
			t.Fatalf("Post(%v, %d, %d): got %v, %d, %d, not %d", q, at, class, got, token, e, f)
		}
		return
	}
	want.Heap = append(want.Heap, api.Item{At: at, Class: class, Seq: q.Next, What: what, Who: who, N: n})
	want.Next++
	if e != api.OK || token != q.Next || !as(got, want) {
		t.Fatalf("Post(%v, %d, %d): got %v, %d, %d", q, at, class, got, token, e)
	}
}

func TestPostOfAllShortQueues(t *testing.T) {
	eachQueue(func(q api.Queue) {
		for _, at := range []int64{0, 1, 2, 9} {
			post(t, q, at, 0, 4, -5, 6)
			post(t, q, at, 15, 4, -5, 6)
		}
		post(t, q, 3, 16, 4, 5, 6)
	})
}

func TestPostAtTheEdges(t *testing.T) {
	times := []int64{
		math.MinInt64, -1<<60 - 1, -1 << 60, -1, 0, 1, 2, 3, 6, 7, 8, 1<<60 - 1, 1 << 60, 1<<60 + 1, math.MaxInt64,
	}
	queues := slices.Concat(good(), bad())
	for i, q := range queues {
		// Of the longest, what may tells is slow.
		if len(q.Heap) > 100 {
			continue
		}
		for _, at := range times {
			for _, class := range []int{math.MinInt, -1, 0, 1, 14, 15, 16, math.MaxInt} {
				post(t, q, at, class, i, -i, uint64(i))
			}
		}
	}
	post(t, filled(2), 5, 3, math.MinInt, math.MaxInt, math.MaxUint64)
	post(t, filled(2), 5, 3, math.MaxInt, math.MinInt, 1<<63)
}

func TestPostByHand(t *testing.T) {
	full := filled(api.MaxItems)
	full.Now = 0
	last := api.Queue{Next: math.MaxUint64, Now: 5, Horizon: 9}
	for i, x := range []struct {
		q     api.Queue
		at    int64
		class int
		want  api.Errno
	}{
		// The error that is named first is told.
		{full, 3, 0, api.ErrFull},
		{full, -1, 0, api.ErrOver},
		{full, -1, 16, api.ErrArg},
		{full, 1<<60 + 1, 0, api.ErrArg},
		{last, 5, 0, api.ErrFull},
		{last, 4, 0, api.ErrOver},
		{last, 4, -1, api.ErrArg},
		{last, -1 << 60, 0, api.ErrOver},
		{last, -1<<60 - 1, 0, api.ErrArg},
		{api.Queue{Now: 5, Next: math.MaxUint64}, 4, 0, api.ErrArg},
		{filled(api.MaxItems + 1), 9, 0, api.ErrArg},
		// What comes later than the horizon is posted, too.
		{api.Queue{Horizon: 9}, 10, 0, api.OK},
		{api.Queue{Horizon: 9}, 1 << 60, 15, api.OK},
		{api.Queue{Now: 9, Horizon: 9}, 9, 15, api.OK},
		{filled(api.MaxItems - 1), 0, 0, api.OK},
	} {
		got, token, e := Post(x.q, x.at, x.class, 1, 2, 3)
		if e != x.want {
			t.Errorf("%d: got %d", i, e)
		}
		if e != api.OK && (token != 0 || !equal(got, x.q)) {
			t.Errorf("%d: got another queue, or %d", i, token)
		}
	}
	post(t, filled(api.MaxItems-1), 2, 1, 7, 8, 9)
	// The last number that there is.
	q, token, e := Post(api.Queue{Next: math.MaxUint64 - 1}, 0, 0, 0, 0, 0)
	if token != math.MaxUint64-1 || e != api.OK || q.Next != math.MaxUint64 {
		t.Errorf("got %v, %d, %d", q, token, e)
	}
	if next, token, e := Post(q, 0, 0, 0, 0, 0); token != 0 || e != api.ErrFull || !equal(next, q) {
		t.Errorf("got %v, %d, %d", next, token, e)
	}
}

func cancel(t *testing.T, q api.Queue, token uint64) {
	t.Helper()
	got, e := Cancel(q, token)
	want := copied(q)
	var is bool
	want.Heap, is = without(q.Heap, token)
	switch {
	case !may(q):
		if e != api.ErrArg || !equal(got, q) {
			t.Fatalf("Cancel(%v, %d): got %v, %d", q, token, got, e)
		}
	case !is:
		if e != api.ErrNone || !equal(got, q) {
			t.Fatalf("Cancel(%v, %d): got %v, %d", q, token, got, e)
		}
	case e != api.OK || !as(got, want):
		t.Fatalf("Cancel(%v, %d): got %v, %d", q, token, got, e)
	}
}

func TestCancelOfAllShortQueues(t *testing.T) {
	eachQueue(func(q api.Queue) {
		for token := range uint64(5) {
			cancel(t, q, token)
		}
	})
}

func TestCancelAtTheEdges(t *testing.T) {
	for _, q := range slices.Concat(good(), bad()) {
		for _, token := range []uint64{0, 1, 1<<63 - 1, 1 << 63, math.MaxUint64 - 1, math.MaxUint64} {
			cancel(t, q, token)
		}
	}
	q := filled(api.MaxItems)
	for _, token := range []uint64{0, 1, 2047, 2048, 4094, 4095, 4096} {
		cancel(t, q, token)
	}
	q = filled(40)
	for token := range uint64(42) {
		cancel(t, q, token)
	}
}

// P5.3

func come(t *testing.T, q api.Queue) {
	t.Helper()
	x, e := Peek(q)
	next, y, f := Step(q)
	var first api.Item
	peeked, want := api.OK, copied(q)
	switch {
	case !may(q):
		peeked = api.ErrArg
	case len(q.Heap) == 0:
		peeked = api.ErrNone
	default:
		first = inOrder(q.Heap)[0]
	}
	if x != first || e != peeked {
		t.Fatalf("Peek(%v): got %v, %d", q, x, e)
	}
	stepped := peeked
	if peeked == api.OK && first.At > q.Horizon {
		stepped = api.ErrOver
	}
	if stepped != api.OK {
		if f != stepped || y != (api.Item{}) || !equal(next, q) {
			t.Fatalf("Step(%v): got %v, %v, %d", q, next, y, f)
		}
		return
	}
	want.Now = first.At
	want.Heap = inOrder(q.Heap)[1:]
	if f != api.OK || y != first || !as(next, want) {
		t.Fatalf("Step(%v): got %v, %v, %d", q, next, y, f)
	}
}

func TestStepOfAllShortQueues(t *testing.T) {
	eachQueue(func(q api.Queue) { come(t, q) })
}

func TestStepAtTheEdges(t *testing.T) {
	for _, q := range slices.Concat(good(), bad()) {
		come(t, q)
	}
}

func TestStepAtTheHorizon(t *testing.T) {
	for _, x := range []struct {
		at, horizon int64
		want        api.Errno
	}{
		{0, 0, api.OK}, {1, 0, api.ErrOver}, {8, 9, api.OK}, {9, 9, api.OK}, {10, 9, api.ErrOver},
		{1 << 60, 1 << 60, api.OK}, {1 << 60, 1<<60 - 1, api.ErrOver},
	} {
		thing := api.Item{At: x.at, Class: 3, Seq: 4, What: 5, Who: 6, N: 7}
		q := api.Queue{Next: 5, Horizon: x.horizon, Heap: []api.Item{thing}}
		if p, e := Peek(q); p != thing || e != api.OK {
			t.Errorf("Peek at %d of %d: got %v, %d", x.at, x.horizon, p, e)
		}
		if _, _, e := Step(q); e != x.want {
			t.Errorf("Step at %d of %d: got %d", x.at, x.horizon, e)
		}
		come(t, q)
	}
}

// What is told is new: nothing is written into what was handed in, nor behind it, and
// neither changes with the other, with an error or without.
func TestToldIsNew(t *testing.T) {
	calls := []struct {
		name string
		call func(q api.Queue) api.Queue
	}{
		{"Tidy", Tidy},
		{"Post", func(q api.Queue) api.Queue { r, _, _ := Post(q, 0, 0, 0, 0, 0); return r }},
		{"Post late", func(q api.Queue) api.Queue { r, _, _ := Post(q, 1<<30, 0, 0, 0, 0); return r }},
		{"Post of a class that is none", func(q api.Queue) api.Queue { r, _, _ := Post(q, 1<<30, 16, 0, 0, 0); return r }},
		{"Post too early", func(q api.Queue) api.Queue { r, _, _ := Post(q, -1, 0, 0, 0, 0); return r }},
		{"Cancel the first", func(q api.Queue) api.Queue { r, _ := Cancel(q, 0); return r }},
		{"Cancel the last", func(q api.Queue) api.Queue { r, _ := Cancel(q, uint64(len(q.Heap)-1)); return r }},
		{"Cancel none", func(q api.Queue) api.Queue { r, _ := Cancel(q, 1<<40); return r }},
		{"Step", func(q api.Queue) api.Queue { r, _, _ := Step(q); return r }},
	}
	queues := map[string]func(q *api.Queue){
		"as it is":               func(q *api.Queue) {},
		"that may not be":        func(q *api.Queue) { q.Now = -1 },
		"that is no heap":        func(q *api.Queue) { q.Heap[0].At = 1 << 35 },
		"of the greatest number": func(q *api.Queue) { q.Next = math.MaxUint64 },
		"beyond its horizon": func(q *api.Queue) {
			q.Horizon = 5
			for i := range q.Heap {
				q.Heap[i].At += 6
			}
		},
	}
	for _, c := range calls {
		for kind, change := range queues {
			for n := 1; n < 12; n++ {
				q := filled(n + 3)
				change(&q)
				isNew(t, c.name+" of one "+kind, q, n, c.call)
			}
		}
	}
}

// isNew holds a call on the first n of q's things against what stands there and behind.
func isNew(t *testing.T, name string, q api.Queue, n int, call func(q api.Queue) api.Queue) {
	t.Helper()
	whole, was := q.Heap, slices.Clone(q.Heap)
	q.Heap = whole[:n]
	got := call(q)
	told := slices.Clone(got.Heap)
	if !slices.Equal(whole, was) {
		t.Errorf("%s, of %d: what was handed in became %v", name, n, whole)
	}
	for i := range whole {
		whole[i] = api.Item{At: 99}
	}
	if !slices.Equal(got.Heap, told) {
		t.Errorf("%s, of %d: the answer shares memory with what was handed in", name, n)
	}
	was = slices.Clone(whole)
	behind := got.Heap[:cap(got.Heap)]
	for i := range behind {
		behind[i] = api.Item{At: 33}
	}
	if !slices.Equal(whole, was) {
		t.Errorf("%s, of %d: what was handed in shares memory with the answer", name, n)
	}
}

// P5.4

func TestExampleOfTheChapter(t *testing.T) {
	q, _ := New(10)
	q, late, _ := Post(q, 5, 0, 0, 0, 0)
	q, early, _ := Post(q, 3, 0, 0, 0, 0)
	for _, want := range []api.Item{{At: 3, Seq: early}, {At: 5, Seq: late}} {
		next, x, e := Step(q)
		if x != want || e != api.OK || next.Now != want.At {
			t.Errorf("got %v, %d", x, e)
		}
		q = next
	}
	if _, _, e := Step(q); e != api.ErrNone {
		t.Errorf("got %d", e)
	}
}

// Of one time things come by class, and of one class as they were posted.
func TestComeInOrder(t *testing.T) {
	next := drawn(1)
	q, _ := New(8)
	var all []api.Item
	for range 600 {
		x := api.Item{At: int64(next(8)), Class: int(next(16)), Seq: q.Next, What: -int(next(9)), Who: int(next(9)), N: 99 - next(99)}
		var e api.Errno
		if q, _, e = Post(q, x.At, x.Class, x.What, x.Who, x.N); e != api.OK {
			t.Fatalf("got %d", e)
		}
		all = append(all, x)
	}
	slices.SortStableFunc(all, func(a, b api.Item) int { return int(a.At-b.At)*16 + a.Class - b.Class })
	for i, want := range all {
		left, x, e := Step(q)
		if x != want || e != api.OK || left.Now != x.At {
			t.Fatalf("%d: got %v, %d, not %v", i, x, e, want)
		}
		q = left
	}
	if len(q.Heap) != 0 {
		t.Errorf("%d are left", len(q.Heap))
	}
}

// modelled is a queue, and beside it what it must be: its things in order.
type modelled struct {
	q, model api.Queue
}

func (m *modelled) post(t *testing.T, at int64, class, what int, n uint64) {
	t.Helper()
	q, token, e := Post(m.q, at, class, what, -what, n)
	if token != m.model.Next || e != api.OK {
		t.Fatalf("Post: got %d, %d", token, e)
	}
	m.q = q
	m.model.Heap = inOrder(append(m.model.Heap, api.Item{At: at, Class: class, Seq: token, What: what, Who: -what, N: n}))
	m.model.Next++
}

func (m *modelled) cancel(t *testing.T, token uint64) {
	t.Helper()
	left, is := without(m.model.Heap, token)
	q, e := Cancel(m.q, token)
	if is && e != api.OK || !is && e != api.ErrNone {
		t.Fatalf("Cancel of %d: got %d", token, e)
	}
	m.q, m.model.Heap = q, left
}

func (m *modelled) step(t *testing.T) api.Errno {
	t.Helper()
	q, x, e := Step(m.q)
	m.q = q
	var first api.Item
	want := api.ErrNone
	if l := m.model.Heap; len(l) > 0 && l[0].At > m.model.Horizon {
		want = api.ErrOver
	} else if len(l) > 0 {
		first, want = l[0], api.OK
		m.model.Now, m.model.Heap = first.At, l[1:]
	}
	if x != first || e != want {
		t.Fatalf("Step: got %v, %d, not %v, %d", x, e, first, want)
	}
	return e
}

// Things are posted, cancelled and let come as it comes: what was cancelled, or has
// come, comes no more, and Now never goes back.
func TestWhateverComesBetween(t *testing.T) {
	var ends [9]int
	for round := range uint64(6) {
		next := drawn(round)
		q, _ := New(int64(60 * round))
		m := &modelled{q, q}
		for i := range 3000 {
			was := m.q.Now
			switch roll := next(16); {
			case roll < 6:
				m.post(t, was+int64(next(1+3*round)), int(next(3)), i, next(5))
			case roll < 9:
				m.cancel(t, next(m.model.Next+2))
			case roll < 15:
				ends[m.step(t)]++
			default:
				m.q = Tidy(m.q)
			}
			if !as(m.q, m.model) || m.q.Now < was {
				t.Fatalf("round %d, %d: got %v, not %v", round, i, m.q, m.model)
			}
		}
	}
	if ends[api.OK] < 1000 || ends[api.ErrOver] < 100 || ends[api.ErrNone] < 100 {
		t.Errorf("steps by how they ended: %v", ends)
	}
}
