package fta

import (
	"math"
	"math/big"
	"slices"
	"testing"

	"pallet/api"
	"pallet/drawn"
)

// The chapter's number, written out: a limit that is mistaken elsewhere is noticed here.
const maxDevs = 64

const (
	least    = math.MinInt64
	greatest = math.MaxInt64
)

// half is half of a and b together, down, in numbers without end.
func half(a, b int64) int64 {
	sum := new(big.Int).Add(big.NewInt(a), big.NewInt(b))
	// Division of math/big (Div) by a number above 0 goes down.
	return new(big.Int).Div(sum, big.NewInt(2)).Int64()
}

// inOrder is a list sorted, by putting each number where as many are less as stand ahead of it.
func inOrder(l []int64) []int64 {
	out := make([]int64, len(l))
	for i, n := range l {
		at := 0
		for j, m := range l {
			if m < n || m == n && j < i {
				at++
			}
		}
		out[at] = n
	}
	return out
}

// kept is what Trim leaves, by the chapter's own words.
func kept(l []int64) []int64 {
	s := inOrder(l)
	switch len(s) {
	case 0, 1, 2:
		return s
	}
	return s[1 : len(s)-1]
}

// nearest is the one of the numbers from -most to most that is nearest to n.
func nearest(n, most int64) int64 {
	switch {
	case n > most:
		return most
	case n < 0 && new(big.Int).Neg(big.NewInt(n)).Cmp(big.NewInt(most)) > 0:
		return -most
	}
	return n
}

// all are all lists of so many numbers, each one of these.
func all(many int, of ...int64) [][]int64 {
	lists := [][]int64{nil}
	for range many {
		var longer [][]int64
		for _, l := range lists {
			for _, n := range of {
				longer = append(longer, append(slices.Clone(l), n))
			}
		}
		lists = longer
	}
	return lists
}

// drawnLists are lists of no to 64 numbers, of few bits and of many.
func drawnLists() [][]int64 {
	var lists [][]int64
	l := drawn.Numbers(200000, 7)
	for round := range 40 {
		for many := range maxDevs + 1 {
			list := make([]int64, many)
			for i := range list {
				// Two drawn numbers make one of 64 bits; of it some bits are left.
				list[i] = int64(l[0]<<32^l[1]) >> ((l[1]>>20 + uint64(round)) % 63)
				l = l[2:]
			}
			lists = append(lists, list)
		}
	}
	return lists
}

// extremes are numbers at the edges.
func extremes() []int64 {
	return []int64{least, least + 1, least / 2, -101, -100, -2, -1, 0, 1, 2, 100, 101, greatest / 2, greatest - 1, greatest}
}

// asTold holds Trim, Average and Spread of a list that may be against the chapter's own words.
func asTold(t *testing.T, l []int64) {
	t.Helper()
	was, left := slices.Clone(l), kept(l)
	if got, e := Trim(l...); !slices.Equal(got, left) || e != api.OK {
		t.Fatalf("Trim of %v: got %v, %d", l, got, e)
	}
	mean, far, none := int64(0), uint64(0), api.Errno(8)
	if len(l) > 0 {
		s := inOrder(l)
		mean, none = half(left[0], left[len(left)-1]), 0
		far = new(big.Int).Sub(big.NewInt(s[len(s)-1]), big.NewInt(s[0])).Uint64()
	}
	if got, e := Average(l...); got != mean || e != none {
		t.Fatalf("Average of %v: got %d, %d, want %d, %d", l, got, e, mean, none)
	}
	if got, e := Spread(l...); got != far || e != none {
		t.Fatalf("Spread of %v: got %d, %d, want %d, %d", l, got, e, far, none)
	}
	if !slices.Equal(l, was) {
		t.Fatalf("%v was changed: %v", was, l)
	}
}

// P9.1

func TestMiddleByHand(t *testing.T) {
	for i, x := range []struct{ a, b, want int64 }{
		{0, 0, 0},
		{3, 4, 3},
		{4, 3, 3},
		{5, 7, 6},
		{-3, -4, -4},
		{-1, 0, -1},
		{-1, 1, 0},
		{-1, 2, 0},
		{-2, 1, -1},
		{-7, 4, -2},
		{greatest, greatest, greatest},
		{greatest, greatest - 1, greatest - 1},
		{greatest, 1, 1 << 62},
		{greatest, 0, 1<<62 - 1},
		{least, least, least},
		{least, least + 1, least},
		{least, -1, -1<<62 - 1},
		{least, greatest, -1},
		{greatest, least, -1},
		{least, 0, -1 << 62},
	} {
		if got := Middle(x.a, x.b); got != x.want {
			t.Errorf("%d: Middle(%d, %d): got %d, want %d", i, x.a, x.b, got, x.want)
		}
	}
}

func TestMiddleOfAll(t *testing.T) {
	for _, a := range extremes() {
		for _, b := range extremes() {
			if got := Middle(a, b); got != half(a, b) {
				t.Errorf("Middle(%d, %d): got %d, want %d", a, b, got, half(a, b))
			}
		}
	}
	for a := int64(-40); a <= 40; a++ {
		for b := int64(-40); b <= 40; b++ {
			if got := Middle(a, b); got != half(a, b) {
				t.Errorf("Middle(%d, %d): got %d, want %d", a, b, got, half(a, b))
			}
		}
	}
	for _, l := range drawnLists() {
		for i := range max(len(l)-1, 0) {
			if got := Middle(l[i], l[i+1]); got != half(l[i], l[i+1]) {
				t.Fatalf("Middle(%d, %d): got %d, want %d", l[i], l[i+1], got, half(l[i], l[i+1]))
			}
		}
	}
}

func TestMeansByHand(t *testing.T) {
	for i, x := range []struct {
		l, left []int64
		mean    int64
		far     uint64
	}{
		{[]int64{3}, []int64{3}, 3, 0},
		{[]int64{least}, []int64{least}, least, 0},
		{[]int64{4, -7}, []int64{-7, 4}, -2, 11},
		{[]int64{-7, 4}, []int64{-7, 4}, -2, 11},
		{[]int64{5, 5}, []int64{5, 5}, 5, 0},
		{[]int64{9, 1, 5}, []int64{5}, 5, 8},
		{[]int64{1, 1, 9}, []int64{1}, 1, 8},
		{[]int64{5, -100, 7, 100}, []int64{5, 7}, 6, 200},
		{[]int64{-6, -100, -5, 100}, []int64{-6, -5}, -6, 200},
		{[]int64{1, 2, 2, 4, 100}, []int64{2, 2, 4}, 3, 99},
		{[]int64{7, 1, 7, 1, 7}, []int64{1, 7, 7}, 4, 6},
		{[]int64{0, 10, 11, 12, 14, 1000}, []int64{10, 11, 12, 14}, 12, 1000},
		{[]int64{greatest, least}, []int64{least, greatest}, -1, math.MaxUint64},
		{[]int64{greatest, least, least, greatest}, []int64{least, greatest}, -1, math.MaxUint64},
		{[]int64{greatest, -1}, []int64{-1, greatest}, 1<<62 - 1, 1 << 63},
	} {
		if l, e := Trim(x.l...); !slices.Equal(l, x.left) || e != api.OK {
			t.Errorf("%d: Trim: got %v, %d", i, l, e)
		}
		if n, e := Average(x.l...); n != x.mean || e != api.OK {
			t.Errorf("%d: Average: got %d, %d", i, n, e)
		}
		if n, e := Spread(x.l...); n != x.far || e != api.OK {
			t.Errorf("%d: Spread: got %d, %d", i, n, e)
		}
	}
}

func TestMeansOfNone(t *testing.T) {
	if l, e := Trim(); len(l) != 0 || e != 0 {
		t.Errorf("Trim: got %v, %d", l, e)
	}
	if n, e := Average(); n != 0 || e != 8 {
		t.Errorf("Average: got %d, %d", n, e)
	}
	if n, e := Spread(); n != 0 || e != 8 {
		t.Errorf("Spread: got %d, %d", n, e)
	}
	asTold(t, []int64{})
}

func TestMeansOfAllShortLists(t *testing.T) {
	for many := range 7 {
		for _, l := range all(many, -5, -2, 0, 1, 8) {
			asTold(t, l)
		}
	}
	for many := range 5 {
		for _, l := range all(many, extremes()...) {
			asTold(t, l)
		}
	}
}

func TestMeansOfDrawn(t *testing.T) {
	for _, l := range drawnLists() {
		asTold(t, l)
	}
}

func TestTooManyNumbers(t *testing.T) {
	long := make([]int64, 1000)
	for i := range long {
		long[i] = int64(5 - i)
	}
	for _, many := range []int{maxDevs - 1, maxDevs} {
		asTold(t, long[:many])
	}
	for _, many := range []int{maxDevs + 1, maxDevs + 2, 128, 1000} {
		if l, e := Trim(long[:many]...); len(l) != 0 || e != 7 {
			t.Errorf("Trim of %d: got %v, %d", many, l, e)
		}
		if n, e := Average(long[:many]...); n != 0 || e != 7 {
			t.Errorf("Average of %d: got %d, %d", many, n, e)
		}
		if n, e := Spread(long[:many]...); n != 0 || e != 7 {
			t.Errorf("Spread of %d: got %d, %d", many, n, e)
		}
	}
}

// P9.2

func TestClipByHand(t *testing.T) {
	for i, x := range []struct {
		n, most, want int64
		e             api.Errno
	}{
		{-9, 3, -3, 0},
		{-3, 3, -3, 0},
		{-2, 3, -2, 0},
		{0, 3, 0, 0},
		{2, 3, 2, 0},
		{3, 3, 3, 0},
		{4, 3, 3, 0},
		{1, 0, 0, 0},
		{-1, 0, 0, 0},
		{0, 0, 0, 0},
		{least, greatest, -greatest, 0},
		{least + 1, greatest, -greatest, 0},
		{greatest, greatest, greatest, 0},
		{least, 1, -1, 0},
		{greatest, 1, 1, 0},
		{1, -1, 0, 1},
		{0, -1, 0, 1},
		{5, least, 0, 1},
		{least, least, 0, 1},
	} {
		if n, e := Clip(x.n, x.most); n != x.want || e != x.e {
			t.Errorf("%d: Clip(%d, %d): got %d, %d, want %d, %d", i, x.n, x.most, n, e, x.want, x.e)
		}
	}
}

func TestClipOfAll(t *testing.T) {
	hold := func(n, most int64) {
		t.Helper()
		want, no := int64(0), api.Errno(1)
		if most >= 0 {
			want, no = nearest(n, most), 0
		}
		if got, e := Clip(n, most); got != want || e != no {
			t.Fatalf("Clip(%d, %d): got %d, %d, want %d, %d", n, most, got, e, want, no)
		}
	}
	for n := int64(-20); n <= 20; n++ {
		for most := int64(-20); most <= 20; most++ {
			hold(n, most)
		}
	}
	for _, n := range extremes() {
		for _, most := range extremes() {
			hold(n, most)
		}
	}
	for _, l := range drawnLists() {
		for i := range max(len(l)-1, 0) {
			hold(l[i], l[i+1])
		}
	}
}

func TestCorrectByHand(t *testing.T) {
	long := make([]int64, maxDevs+1)
	for i, x := range []struct {
		window int64
		l      []int64
		want   int64
		e      api.Errno
	}{
		{4, []int64{5, -100, 7, 100}, 4, 0},
		{6, []int64{5, -100, 7, 100}, 6, 0},
		{7, []int64{5, -100, 7, 100}, 6, 0},
		{5, []int64{5, -100, 7, 100}, 5, 0},
		{4, []int64{-5, -100, -7, 100}, -4, 0},
		{100, []int64{-5, -100, -8, 100}, -7, 0},
		{0, []int64{5, 7}, 0, 0},
		{4, nil, 0, 0},
		{0, nil, 0, 0},
		{greatest, []int64{least}, -greatest, 0},
		{greatest, []int64{greatest}, greatest, 0},
		{greatest, []int64{least, greatest}, -1, 0},
		{-1, []int64{5}, 0, 1},
		{-1, nil, 0, 1},
		{least, nil, 0, 1},
		{-1, long, 0, 1},
		{0, long, 0, 7},
		{4, long, 0, 7},
		{4, long[:maxDevs], 0, 0},
	} {
		if n, e := Correct(x.window, x.l...); n != x.want || e != x.e {
			t.Errorf("%d: Correct(%d, %v): got %d, %d, want %d, %d", i, x.window, x.l, n, e, x.want, x.e)
		}
	}
}

func TestCorrectOfMany(t *testing.T) {
	hold := func(window int64, l []int64) {
		t.Helper()
		want, no := int64(0), api.Errno(0)
		if window < 0 {
			no = 1
		} else if left := kept(l); len(left) > 0 {
			want = nearest(half(left[0], left[len(left)-1]), window)
		}
		if got, e := Correct(window, l...); got != want || e != no {
			t.Fatalf("Correct(%d, %v): got %d, %d, want %d, %d", window, l, got, e, want, no)
		}
	}
	for many := range 5 {
		for _, l := range all(many, -9, -4, -1, 0, 3, 6) {
			for window := int64(-2); window <= 10; window++ {
				hold(window, l)
			}
		}
	}
	for _, l := range drawnLists() {
		for _, window := range extremes() {
			hold(window, l)
		}
	}
}

// P9.3

// meanOf is a mean of numbers that have one.
func meanOf(t *testing.T, l []int64) int64 {
	t.Helper()
	n, e := Average(l...)
	if e != api.OK {
		t.Fatalf("Average of %v: got %d", l, e)
	}
	return n
}

func TestMeanIsAmongWhatIsLeft(t *testing.T) {
	hold := func(l []int64) {
		t.Helper()
		left, e := Trim(l...)
		if e != api.OK || len(left) == 0 {
			t.Fatalf("Trim of %v: got %v, %d", l, left, e)
		}
		if n := meanOf(t, l); n < slices.Min(left) || n > slices.Max(left) {
			t.Fatalf("the mean of %v is %d, and %v is left", l, n, left)
		}
	}
	for many := 1; many <= 4; many++ {
		for _, l := range all(many, extremes()...) {
			hold(l)
		}
	}
	for _, l := range drawnLists() {
		if len(l) > 0 {
			hold(l)
		}
	}
}

func TestMeanMovesWithItsNumbers(t *testing.T) {
	hold := func(l []int64, by int64) {
		t.Helper()
		moved := make([]int64, len(l))
		for i, n := range l {
			moved[i] = n + by
		}
		if a, b := meanOf(t, l), meanOf(t, moved); b != a+by {
			t.Fatalf("the mean of %v is %d, and of all greater by %d it is %d", l, a, by, b)
		}
	}
	for many := 1; many <= 5; many++ {
		for _, l := range all(many, -7, -2, 0, 1, 4) {
			for _, by := range []int64{-100, -7, -1, 1, 2, 99, 1 << 62, -1 << 62} {
				hold(l, by)
			}
		}
	}
	for _, l := range drawnLists() {
		small := make([]int64, len(l))
		for i, n := range l {
			small[i] = n / 2 // so that none goes around
		}
		if len(small) > 0 {
			hold(small, 1<<61+3)
			hold(small, -1<<61)
		}
	}
}

// notFar holds two means against one another: of the same numbers, but one of the lists
// reads each off by so much, and each has one more number, that may be any. In whole
// numbers half of an odd spread is taken up.
func notFar(t *testing.T, good, offs []int64, one, other int64) {
	t.Helper()
	off, read := int64(0), slices.Clone(good)
	for i := range read {
		read[i] += offs[i]
		off = max(off, offs[i], -offs[i])
	}
	far, e := Spread(good...)
	if e != api.OK {
		t.Fatalf("Spread of %v: got %d", good, e)
	}
	a, b := meanOf(t, append(slices.Clone(good), one)), meanOf(t, append(read, other))
	if apart := uint64(max(a, b)) - uint64(min(a, b)); apart > far/2+far%2+uint64(off) {
		t.Fatalf("of %v with %d the mean is %d, of %v with %d it is %d: %d apart, where the spread is %d, and they are off by %d",
			good, one, a, read, other, b, apart, far, off)
	}
}

func TestOneNumberMovesAMeanByHalfTheSpread(t *testing.T) {
	for many := 3; many <= 4; many++ {
		none := make([]int64, many)
		for _, good := range all(many, -7, -3, 0, 1, 2, 6) {
			for _, one := range []int64{least, -8, -3, -1, 0, 1, 2, 6, 7, greatest} {
				for _, other := range []int64{least, -5, 0, 1, 4, greatest} {
					notFar(t, good, none, one, other)
				}
			}
		}
	}
	for many := 5; many <= 6; many++ {
		none := make([]int64, many)
		for _, good := range all(many, 0, 1, 3) {
			notFar(t, good, none, least, greatest)
			notFar(t, good, none, least, 1)
			notFar(t, good, none, 2, greatest)
		}
	}
}

func TestReadingsThatAreOffMoveAMeanByNoMore(t *testing.T) {
	for _, good := range all(3, -3, 0, 1, 6) {
		for _, offs := range all(3, -2, 0, 1) {
			for _, one := range []int64{least, -4, 0, 1, 7, greatest} {
				for _, other := range []int64{least, -1, 2, greatest} {
					notFar(t, good, offs, one, other)
				}
			}
		}
	}
	draw := drawn.Numbers(4000, 7)
	for i, l := range drawnLists() {
		if len(l) < 4 {
			continue
		}
		good, offs := make([]int64, len(l)-1), make([]int64, len(l)-1)
		for j := range good {
			good[j] = l[j] / 4 // so that none goes around
			offs[j] = int64(draw[(i+j)%len(draw)]%2001) - 1000
		}
		notFar(t, good, offs, l[len(l)-1], int64(draw[i%len(draw)]<<11))
		notFar(t, good, make([]int64, len(good)), least, greatest)
		notFar(t, good, offs, least, greatest)
	}
}

// The bound is met: it is no less than what the chapter tells.
func TestHalfTheSpreadIsMet(t *testing.T) {
	for _, x := range []struct {
		good      []int64
		low, high int64
	}{
		{[]int64{0, 5, 10}, 2, 7},
		{[]int64{0, 0, 10}, 0, 5},
		{[]int64{0, 1, 1}, 0, 1},
	} {
		if n := meanOf(t, append(slices.Clone(x.good), least)); n != x.low {
			t.Errorf("%v and a low one: got %d", x.good, n)
		}
		if n := meanOf(t, append(slices.Clone(x.good), greatest)); n != x.high {
			t.Errorf("%v and a high one: got %d", x.good, n)
		}
	}
}

// R2

func TestWhatIsTrimmedIsTheCallers(t *testing.T) {
	for many := range maxDevs + 1 {
		l := make([]int64, many)
		for i := range l {
			l[i] = int64(i)
		}
		was := slices.Clone(l)
		one, e := Trim(l...)
		if e != api.OK {
			t.Fatalf("Trim of %d: got %d", many, e)
		}
		two, _ := Trim(l...)
		want := slices.Clone(one)
		for i := range one {
			one[i] = -9
		}
		_ = append(one, -9)
		if !slices.Equal(l, was) || !slices.Equal(two, want) {
			t.Fatalf("of %d numbers: what was told shares memory", many)
		}
		for i := range l {
			l[i] = 77
		}
		if !slices.Equal(two, want) {
			t.Fatalf("of %d numbers: what was told hangs on what was handed in", many)
		}
	}
}

func TestWhatIsHandedInStays(t *testing.T) {
	l := []int64{9, 3, -7, 5, 3}
	was := slices.Clone(l)
	for range 2 {
		Trim(l...)
		Average(l...)
		Spread(l...)
		Correct(4, l...)
	}
	if !slices.Equal(l, was) {
		t.Errorf("got %v", l)
	}
}
