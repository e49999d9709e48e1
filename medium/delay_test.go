package medium

import (
	"math"
	"slices"
	"testing"

	"pallet/api"
	"pallet/drawn"
)

// far is how far nodes are apart, each way by a number of its own.
func far(many int) [][]int64 {
	d := make([][]int64, many)
	for from := range d {
		d[from] = make([]int64, many)
		for to := range d[from] {
			if from != to {
				d[from][to] = int64(100*from + to + 1)
			}
		}
	}
	return d
}

func copiedDelays(d [][]int64) [][]int64 {
	d = slices.Clone(d)
	for i := range d {
		d[i] = slices.Clone(d[i])
	}
	return d
}

func equalDelays(a, b [][]int64) bool { return slices.EqualFunc(a, b, slices.Equal[[]int64]) }

// delaysMayBe tells whether delays may be, by the chapter's own words.
func delaysMayBe(n int, d [][]int64) bool {
	if n < 1 || n > nodes || len(d) != n {
		return false
	}
	for from, l := range d {
		if len(l) != n || l[from] != 0 || slices.Min(l) < 0 || slices.Max(l) > maxDelay {
			return false
		}
	}
	return true
}

func compareDelays(t *testing.T, n int, d [][]int64) {
	t.Helper()
	want := api.ErrArg
	if delaysMayBe(n, d) {
		want = api.OK
	}
	was := copiedDelays(d)
	if e := Delays(n, d...); e != want {
		t.Errorf("%d, %v: got %d, not %d", n, d, e, want)
	}
	if !equalDelays(d, was) {
		t.Errorf("%d, %v is changed to %v", n, was, d)
	}
}

// P11.3

func TestDelaysByHand(t *testing.T) {
	for i, x := range []struct {
		n    int
		d    [][]int64
		want api.Errno
	}{
		{1, [][]int64{{0}}, api.OK},
		{2, [][]int64{{0, 5}, {5, 0}}, api.OK},
		{2, [][]int64{{0, 0}, {0, 0}}, api.OK},
		// There need not be as far one way as the other.
		{2, [][]int64{{0, 1}, {1 << 40, 0}}, api.OK},
		{2, [][]int64{{0, 1}, {1<<40 + 1, 0}}, api.ErrArg},
		{2, [][]int64{{0, 1<<40 + 1}, {1, 0}}, api.ErrArg},
		{2, [][]int64{{0, -1}, {1, 0}}, api.ErrArg},
		{2, [][]int64{{0, 1}, {-1, 0}}, api.ErrArg},
		{2, [][]int64{{0, math.MaxInt64}, {1, 0}}, api.ErrArg},
		{2, [][]int64{{0, math.MinInt64}, {1, 0}}, api.ErrArg},
		{2, [][]int64{{1, 5}, {5, 0}}, api.ErrArg},
		{2, [][]int64{{0, 5}, {5, 1}}, api.ErrArg},
		{2, [][]int64{{0, 5}, {5, -1}}, api.ErrArg},
		{1, [][]int64{{1}}, api.ErrArg},
		{1, [][]int64{{-1}}, api.ErrArg},
		// Of as many lists, and numbers, and nodes.
		{2, [][]int64{{0, 5}, {5}}, api.ErrArg},
		{2, [][]int64{{0}, {5, 0}}, api.ErrArg},
		{2, [][]int64{{0, 5, 5}, {5, 0}}, api.ErrArg},
		{2, [][]int64{{0, 5}, {5, 0, 5}}, api.ErrArg},
		{2, [][]int64{{0, 5}, nil}, api.ErrArg},
		{2, [][]int64{nil, nil}, api.ErrArg},
		{2, [][]int64{{0, 5}}, api.ErrArg},
		{2, [][]int64{{0, 5}, {5, 0}, {5, 5}}, api.ErrArg},
		{2, nil, api.ErrArg},
		{1, nil, api.ErrArg},
		{1, [][]int64{{}}, api.ErrArg},
		{0, nil, api.ErrArg},
		{0, [][]int64{{}}, api.ErrArg},
		{0, [][]int64{{0}}, api.ErrArg},
		{-1, nil, api.ErrArg},
		{-1, [][]int64{{0}}, api.ErrArg},
		{math.MinInt, nil, api.ErrArg},
		{math.MaxInt, [][]int64{{0}}, api.ErrArg},
	} {
		if e := Delays(x.n, x.d...); e != x.want {
			t.Errorf("%d: %d, %v: got %d, not %d", i, x.n, x.d, e, x.want)
		}
		compareDelays(t, x.n, x.d)
	}
}

func TestDelaysOfEachManyNodes(t *testing.T) {
	for many := range 20 {
		for _, n := range []int{many - 1, many, many + 1, 0, 1, 16, 17} {
			compareDelays(t, n, far(many))
		}
		want := api.ErrArg
		if many >= 1 && many <= 16 {
			want = api.OK
		}
		if e := Delays(many, far(many)...); e != want {
			t.Errorf("%d nodes: got %d", many, e)
		}
	}
}

// One number is at an edge, wherever it is.
func TestDelaysAtTheEdges(t *testing.T) {
	for _, many := range []int{1, 2, 3, 16} {
		for from := range many {
			for to := range many {
				for _, n := range []int64{math.MinInt64, -maxDelay, -1, 0, 1, maxDelay - 1, maxDelay, maxDelay + 1, math.MaxInt64} {
					d := far(many)
					d[from][to] = n
					compareDelays(t, many, d)
				}
			}
		}
	}
}

// One list has another length, wherever it is.
func TestDelaysOfOtherLists(t *testing.T) {
	for _, many := range []int{1, 2, 3, 16} {
		for from := range many {
			for _, l := range [][]int64{nil, {}, make([]int64, many-1), make([]int64, many+1), make([]int64, 2*many), make([]int64, many)} {
				d := far(many)
				d[from] = l
				compareDelays(t, many, d)
			}
		}
	}
}

// arrived is what Arrive must answer, by the chapter's own words.
func arrived(x api.Air, to int, d [][]int64) (int64, int64, api.Errno) {
	among := func(node int) bool { return node >= 0 && node < len(d) }
	if !mayBe(x) || !delaysMayBe(len(d), d) || !among(x.From) || !among(to) || x.From == to {
		return 0, 0, api.ErrArg
	}
	// Neither sum goes around: both are at most 2^61.
	at, end := x.At+d[x.From][to], x.End+d[x.From][to]
	if at > maxTime || end > maxTime {
		return 0, 0, api.ErrOver
	}
	return at, end, api.OK
}

func compareArrive(t *testing.T, x api.Air, to int, d [][]int64) {
	t.Helper()
	was := copiedDelays(d)
	at, end, f := arrived(x, to, d)
	if gotAt, gotEnd, e := Arrive(x, to, d...); gotAt != at || gotEnd != end || e != f {
		t.Errorf("%v to %d, %v: got %d, %d, %d, not %d, %d, %d", plainOf(x), to, d, gotAt, gotEnd, e, at, end, f)
	}
	if !equalDelays(d, was) {
		t.Errorf("%v is changed to %v", was, d)
	}
}

func TestArriveByHand(t *testing.T) {
	d := [][]int64{{0, 5, 7}, {11, 0, 13}, {17, 1 << 40, 0}}
	from := func(node int, at, end int64) api.Air {
		return api.Air{Id: 9, From: node, At: at, End: end, Left: 1}
	}
	for i, x := range []struct {
		x       api.Air
		to      int
		d       [][]int64
		at, end int64
		e       api.Errno
	}{
		{from(0, 100, 200), 1, d, 105, 205, api.OK},
		{from(0, 100, 200), 2, d, 107, 207, api.OK},
		{from(1, 100, 200), 0, d, 111, 211, api.OK},
		{from(1, 100, 200), 2, d, 113, 213, api.OK},
		{from(2, 100, 200), 0, d, 117, 217, api.OK},
		{from(2, 0, 1), 1, d, 1 << 40, 1<<40 + 1, api.OK},
		{from(0, 0, 1), 1, [][]int64{{0, 0}, {0, 0}}, 0, 1, api.OK},
		// Up to the last time, and over it: the end alone, or both.
		{from(0, 0, 1<<60-5), 1, d, 5, 1 << 60, api.OK},
		{from(0, 0, 1<<60-4), 1, d, 0, 0, api.ErrOver},
		{from(0, 1<<60-6, 1<<60-5), 1, d, 1<<60 - 1, 1 << 60, api.OK},
		{from(0, 1<<60-5, 1<<60-4), 1, d, 0, 0, api.ErrOver},
		{from(0, 1<<60-4, 1<<60-3), 1, d, 0, 0, api.ErrOver},
		{from(0, 1<<60-1, 1<<60), 1, d, 0, 0, api.ErrOver},
		{from(2, 1, 1<<60-1<<40), 1, d, 1<<40 + 1, 1 << 60, api.OK},
		{from(2, 1, 1<<60-1<<40+1), 1, d, 0, 0, api.ErrOver},
		// To oneself, to none of them, from none of them.
		{from(0, 100, 200), 0, d, 0, 0, api.ErrArg},
		{from(2, 100, 200), 2, d, 0, 0, api.ErrArg},
		{from(0, 100, 200), 3, d, 0, 0, api.ErrArg},
		{from(0, 100, 200), -1, d, 0, 0, api.ErrArg},
		{from(0, 100, 200), math.MaxInt, d, 0, 0, api.ErrArg},
		{from(0, 100, 200), math.MinInt, d, 0, 0, api.ErrArg},
		{from(3, 100, 200), 0, d, 0, 0, api.ErrArg},
		{from(15, 100, 200), 0, d, 0, 0, api.ErrArg},
		{from(-1, 100, 200), 0, d, 0, 0, api.ErrArg},
		{from(3, 100, 200), 3, d, 0, 0, api.ErrArg},
		{from(0, 100, 200), 0, [][]int64{{0}}, 0, 0, api.ErrArg},
		{from(0, 100, 200), 1, [][]int64{{0}}, 0, 0, api.ErrArg},
		// Delays that may not be, even where they are not asked for.
		{from(0, 100, 200), 1, nil, 0, 0, api.ErrArg},
		{from(0, 100, 200), 1, d[:2], 0, 0, api.ErrArg},
		{from(0, 100, 200), 1, [][]int64{{0, 5}, {5, 1}}, 0, 0, api.ErrArg},
		{from(0, 100, 200), 1, [][]int64{{0, 5}, {-1, 0}}, 0, 0, api.ErrArg},
		{from(0, 100, 200), 1, far(17), 0, 0, api.ErrArg},
		// A thing that may not be.
		{api.Air{}, 1, d, 0, 0, api.ErrArg},
		{from(0, 200, 200), 1, d, 0, 0, api.ErrArg},
		{from(0, 200, 1<<60+1), 1, d, 0, 0, api.ErrArg},
		{from(0, -1, 200), 1, d, 0, 0, api.ErrArg},
		// What is amiss comes ahead of what goes over.
		{from(0, 1, 1<<60), 0, d, 0, 0, api.ErrArg},
		{from(0, 1, 1<<60), 1, [][]int64{{0, 5}, {5, 1}}, 0, 0, api.ErrArg},
		{api.Air{From: 0, At: 1, End: 1 << 60}, 1, d, 0, 0, api.ErrArg},
	} {
		if at, end, e := Arrive(x.x, x.to, x.d...); at != x.at || end != x.end || e != x.e {
			t.Errorf("%d: got %d, %d, %d, not %d, %d, %d", i, at, end, e, x.at, x.end, x.e)
		}
		compareArrive(t, x.x, x.to, x.d)
	}
}

func TestArriveAtTheEdges(t *testing.T) {
	for _, many := range []int{1, 2, 3, 16, 17} {
		for _, x := range edges() {
			for _, to := range []int{-1, 0, 1, 2, 15, 16, 17} {
				compareArrive(t, x, to, far(many))
			}
		}
	}
}

func TestArriveFromEachToEach(t *testing.T) {
	for many := 1; many <= nodes; many++ {
		d := far(many)
		for from := range many + 1 {
			for to := range many + 1 {
				compareArrive(t, api.Air{From: from, At: 3, End: 8, Left: 1}, to, d)
			}
		}
	}
}

func TestArriveOfDrawn(t *testing.T) {
	for l := drawn.Numbers(4*3000, 31); len(l) > 0; l = l[4:] {
		d := far(2 + int(l[0]%15))
		x := drawnThing(l[0], l[1])
		x.From = int(l[2] % uint64(len(d)))
		to := int(l[3] % uint64(len(d)))
		if from := d[x.From]; to != x.From {
			from[to] = int64(l[3] >> 5 % (maxDelay + 1))
		}
		if l[2]>>8%2 == 0 {
			x.End = maxTime - d[x.From][to] + int64(l[2]>>9%5) - 2
		}
		compareArrive(t, x, to, d)
	}
}
