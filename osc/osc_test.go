package osc

import (
	"math"
	"math/big"
	"slices"
	"testing"

	"pallet/api"
	"pallet/drawn"
)

// The chapter's numbers, written out: a limit that is mistaken elsewhere is noticed here.
const (
	billion   = 1000000000
	maxPeriod = 1000000000
	maxDrift  = 1000000
	maxTicks  = 1099511627776
	maxTime   = 1152921504606846976
)

// about are the numbers on, below and above each of l.
func about(l ...int64) []int64 {
	var all []int64
	for _, n := range l {
		all = append(all, n)
		if n > math.MinInt64 {
			all = append(all, n-1)
		}
		if n < math.MaxInt64 {
			all = append(all, n+1)
		}
	}
	slices.Sort(all)
	return slices.Compact(all)
}

var (
	periods = about(0, 3, 1000, 1048576, maxPeriod, math.MaxInt64, math.MinInt64)
	drifts  = about(0, 50, -50, maxDrift, -maxDrift, math.MaxInt64, math.MinInt64)
	rems    = about(0, 500000000, billion-1, math.MaxInt64, math.MinInt64)
	counts  = about(0, 1000, 20000, 1<<20, 1<<30, maxTicks, math.MaxInt64, math.MinInt64)
)

// may tells whether an oscillator may be, by the chapter's own words.
func may(o api.Osc) bool {
	return 1 <= o.Period && o.Period <= maxPeriod &&
		-maxDrift <= o.Drift && o.Drift <= maxDrift &&
		0 <= o.Rem && o.Rem <= billion-1
}

// eachOsc goes through oscillators at the edges, those that may not be among them.
func eachOsc(f func(o api.Osc)) {
	for _, p := range periods {
		for _, d := range drifts {
			for _, r := range rems {
				f(api.Osc{Period: p, Drift: d, Rem: r})
			}
		}
	}
}

// good are oscillators that may be: the slowest and the fastest, and some between.
func good() []api.Osc {
	var l []api.Osc
	for _, p := range []int64{1, 2, 999, 1000, 1048576, 1048577, maxPeriod - 1, maxPeriod} {
		for _, d := range []int64{-maxDrift, -50, -1, 0, 1, 50, maxDrift} {
			for _, r := range []int64{0, 1, 999999949, billion - 1} {
				l = append(l, api.Osc{Period: p, Drift: d, Rem: r})
			}
		}
	}
	return l
}

// rate is how many parts of a billion a tick takes, as a number without end.
func rate(o api.Osc) *big.Int {
	n := big.NewInt(o.Drift)
	n.Add(n, big.NewInt(billion))
	return n.Mul(n, big.NewInt(o.Period))
}

// takes is how long ticks take, as a number without end, and what is left.
func takes(o api.Osc, ticks int64) (*big.Int, int64) {
	n := rate(o)
	n.Mul(n, big.NewInt(ticks)).Add(n, big.NewInt(o.Rem))
	left := new(big.Int)
	n.DivMod(n, big.NewInt(billion), left)
	return n, left.Int64()
}

// run is what Run must answer.
func run(o api.Osc, ticks int64) (int64, api.Osc, api.Errno) {
	if !may(o) || ticks < 0 || ticks > maxTicks {
		return 0, api.Osc{}, api.ErrArg
	}
	n, left := takes(o, ticks)
	if n.Cmp(big.NewInt(maxTime)) > 0 {
		return 0, api.Osc{}, api.ErrOver
	}
	return n.Int64(), api.Osc{Period: o.Period, Drift: o.Drift, Rem: left}, api.OK
}

// drawnOsc is an oscillator that may be, of three drawn numbers.
func drawnOsc(l []uint64) api.Osc {
	return api.Osc{
		Period: 1 + int64(l[0]%[]uint64{10, 2000, maxPeriod}[l[0]>>20%3]),
		Drift:  int64(l[1]%(2*maxDrift+1)) - maxDrift,
		Rem:    int64(l[2] % billion),
	}
}

// P6.1

func TestCheckAtTheEdges(t *testing.T) {
	eachOsc(func(o api.Osc) {
		want := api.OK
		if !may(o) {
			want = api.ErrArg
		}
		if e := Check(o); e != want {
			t.Errorf("Check(%v) is %d", o, e)
		}
	})
}

func TestRateByHand(t *testing.T) {
	for i, x := range []struct {
		o    api.Osc
		want int64
		e    api.Errno
	}{
		{api.Osc{Period: 1000, Drift: 50}, 1000000050000, api.OK},
		{api.Osc{Period: 1000, Drift: 50, Rem: 7}, 1000000050000, api.OK},
		{api.Osc{Period: 1}, 1000000000, api.OK},
		{api.Osc{Period: 1, Drift: -1}, 999999999, api.OK},
		{api.Osc{Period: 7, Drift: -1000000}, 6993000000, api.OK},
		{api.Osc{Period: 1000000000, Drift: 1000000}, 1001000000000000000, api.OK},
		{api.Osc{Period: 1000000000, Drift: 1000001}, 0, api.ErrArg},
		{api.Osc{Period: 1, Rem: 1000000000}, 0, api.ErrArg},
		{api.Osc{}, 0, api.ErrArg},
	} {
		if n, e := Rate(x.o); n != x.want || e != x.e {
			t.Errorf("%d: Rate(%v): got %d, %d", i, x.o, n, e)
		}
	}
}

func TestRateAtTheEdges(t *testing.T) {
	eachOsc(func(o api.Osc) {
		n, e := Rate(o)
		if !may(o) {
			if n != 0 || e != api.ErrArg {
				t.Errorf("Rate(%v): got %d, %d", o, n, e)
			}
			return
		}
		if big.NewInt(n).Cmp(rate(o)) != 0 || e != api.OK {
			t.Errorf("Rate(%v): got %d, %d, not %v", o, n, e, rate(o))
		}
	})
}

// P6.2

func TestRunByHand(t *testing.T) {
	o := api.Osc{Period: 1000, Drift: 50}
	for i, x := range []struct {
		o     api.Osc
		ticks int64
		ps    int64
		left  int64
		e     api.Errno
	}{
		// The chapter's example.
		{o, 1000, 1000000, 50000000, api.OK},
		{o, 20000, 20000001, 0, api.OK},
		{o, 0, 0, 0, api.OK},
		{api.Osc{Period: 3, Rem: 5}, 0, 0, 5, api.OK},
		{api.Osc{Period: 3, Rem: billion - 1}, 7, 21, billion - 1, api.OK},
		{api.Osc{Period: 1, Drift: -1}, 1, 0, 999999999, api.OK},
		{api.Osc{Period: 1, Drift: -1, Rem: 1}, 1, 1, 0, api.OK},
		{api.Osc{Period: 1, Drift: 1, Rem: billion - 1}, 1, 2, 0, api.OK},
		// 2^20 times 2^40 is the greatest time; a part more is none yet, a picosecond more is.
		{api.Osc{Period: 1 << 20}, maxTicks, maxTime, 0, api.OK},
		{api.Osc{Period: 1 << 20, Rem: billion - 1}, maxTicks, maxTime, billion - 1, api.OK},
		{api.Osc{Period: 1 << 20, Drift: 1}, maxTicks, 0, 0, api.ErrOver},
		{api.Osc{Period: 1<<20 + 1}, maxTicks, 0, 0, api.ErrOver},
		{api.Osc{Period: maxPeriod, Drift: maxDrift, Rem: billion - 1}, maxTicks, 0, 0, api.ErrOver},
		{o, -1, 0, 0, api.ErrArg},
		{o, maxTicks + 1, 0, 0, api.ErrArg},
		{api.Osc{Period: maxPeriod}, maxTicks + 1, 0, 0, api.ErrArg},
		{api.Osc{}, 1, 0, 0, api.ErrArg},
	} {
		want := api.Osc{Period: x.o.Period, Drift: x.o.Drift, Rem: x.left}
		if x.e != api.OK {
			want = api.Osc{}
		}
		if ps, p, e := Run(x.o, x.ticks); ps != x.ps || p != want || e != x.e {
			t.Errorf("%d: Run(%v, %d): got %d, %v, %d", i, x.o, x.ticks, ps, p, e)
		}
	}
}

func compareRun(t *testing.T, o api.Osc, ticks int64) {
	t.Helper()
	ps, p, e := Run(o, ticks)
	if wantPs, want, f := run(o, ticks); ps != wantPs || p != want || e != f {
		t.Errorf("Run(%v, %d): got %d, %v, %d, not %d, %v, %d", o, ticks, ps, p, e, wantPs, want, f)
	}
}

func TestRunAtTheEdges(t *testing.T) {
	eachOsc(func(o api.Osc) {
		for _, n := range counts {
			compareRun(t, o, n)
		}
	})
}

// over is the least number of ticks that take more than a time, or one beyond the most.
func over(o api.Osc) int64 {
	n := big.NewInt(maxTime + 1)
	n.Mul(n, big.NewInt(billion)).Sub(n, big.NewInt(o.Rem+1)).Div(n, rate(o))
	if n.Cmp(big.NewInt(maxTicks)) > 0 {
		return maxTicks + 1
	}
	return n.Int64() + 1
}

func TestRunWhereTimesEnd(t *testing.T) {
	for _, o := range good() {
		for _, n := range about(over(o)) {
			compareRun(t, o, n)
		}
	}
}

// The rest alone may be what goes over: these ticks end at the greatest time, and so many parts behind it.
func TestRunOverByTheRest(t *testing.T) {
	for _, x := range []struct{ period, drift, ticks, left int64 }{
		{1048577, 308339, 1099171661710, 674941130},
		{1048577, 875068, 1098549273885, 140166860},
		{1048578, 516451, 1098941980943, 967187354},
	} {
		o := api.Osc{Period: x.period, Drift: x.drift, Rem: billion - 1 - x.left}
		if ps, p, e := Run(o, x.ticks); ps != maxTime || p.Rem != billion-1 || e != api.OK {
			t.Errorf("Run(%v, %d): got %d, %v, %d", o, x.ticks, ps, p, e)
		}
		o.Rem++
		if ps, p, e := Run(o, x.ticks); ps != 0 || p != (api.Osc{}) || e != api.ErrOver {
			t.Errorf("Run(%v, %d): got %d, %v, %d", o, x.ticks, ps, p, e)
		}
	}
}

func TestRunOfDrawn(t *testing.T) {
	l := drawn.Numbers(4*20000, 6)
	for ; len(l) > 0; l = l[4:] {
		compareRun(t, drawnOsc(l), int64(l[3]%[]uint64{5, 1 << 20, maxTicks + 1}[l[3]>>25%3]))
	}
}

// many is what Many must answer.
func many(o api.Osc, ticks []int64) ([]int64, api.Osc, api.Errno) {
	if !may(o) {
		return nil, api.Osc{}, api.ErrArg
	}
	var l []int64
	for _, n := range ticks {
		ps, next, e := run(o, n)
		if e != api.OK {
			return nil, api.Osc{}, e
		}
		l, o = append(l, ps), next
	}
	return l, o, api.OK
}

func compareMany(t *testing.T, o api.Osc, ticks ...int64) {
	t.Helper()
	was := slices.Clone(ticks)
	l, p, e := Many(o, ticks...)
	wantL, want, f := many(o, ticks)
	if !slices.Equal(l, wantL) || p != want || e != f {
		t.Errorf("Many(%v, %v): got %v, %v, %d, not %v, %v, %d", o, ticks, l, p, e, wantL, want, f)
	}
	if !slices.Equal(ticks, was) {
		t.Errorf("Many(%v, %v) changes what was handed in", o, was)
	}
}

func TestManyByHand(t *testing.T) {
	o := api.Osc{Period: 1000, Drift: 50}
	long := api.Osc{Period: maxPeriod}
	for i, x := range []struct {
		o     api.Osc
		ticks []int64
		want  []int64
		left  int64
		e     api.Errno
	}{
		{o, nil, nil, 0, api.OK},
		{api.Osc{Period: 2, Rem: 9}, []int64{}, nil, 9, api.OK},
		{o, []int64{1000, 19000, 1}, []int64{1000000, 19000001, 1000}, 50000, api.OK},
		{o, []int64{0, 20000, 0}, []int64{0, 20000001, 0}, 0, api.OK},
		{api.Osc{Period: 1, Drift: -1}, []int64{1, 1, 1}, []int64{0, 1, 1}, 999999997, api.OK},
		{api.Osc{}, nil, nil, 0, api.ErrArg},
		{api.Osc{Period: 1, Rem: billion}, nil, nil, 0, api.ErrArg},
		{api.Osc{Period: 1, Rem: -1}, []int64{1}, nil, 0, api.ErrArg},
		{o, []int64{1, 2, -1}, nil, 0, api.ErrArg},
		{o, []int64{maxTicks + 1, 2}, nil, 0, api.ErrArg},
		{long, []int64{1, maxTicks, 1}, nil, 0, api.ErrOver},
		{long, []int64{maxTicks, -1}, nil, 0, api.ErrOver},
		{long, []int64{-1, maxTicks}, nil, 0, api.ErrArg},
		// Each is a time, all together are none: nothing goes over.
		{long, []int64{1 << 30, 1 << 30}, []int64{billion << 30, billion << 30}, 0, api.OK},
	} {
		want := api.Osc{Period: x.o.Period, Drift: x.o.Drift, Rem: x.left}
		if x.e != api.OK {
			want = api.Osc{}
		}
		if l, p, e := Many(x.o, x.ticks...); !slices.Equal(l, x.want) || p != want || e != x.e {
			t.Errorf("%d: Many(%v, %v): got %v, %v, %d", i, x.o, x.ticks, l, p, e)
		}
	}
}

func TestManyAtTheEdges(t *testing.T) {
	eachOsc(func(o api.Osc) {
		compareMany(t, o)
		compareMany(t, o, 0)
		compareMany(t, o, 1, -1)
		compareMany(t, o, 1, 999, 0, 20000, 1)
		compareMany(t, o, maxTicks, maxTicks)
		compareMany(t, o, maxTicks, maxTicks+1)
	})
}

func TestManyIsNewMemory(t *testing.T) {
	o := api.Osc{Period: 3, Drift: 5}
	ticks := []int64{1, 2, 3}
	a, _, _ := Many(o, ticks...)
	b, _, _ := Many(o, ticks...)
	was := slices.Clone(b)
	for i := range a {
		a[i], ticks[i] = -1, -2
	}
	if !slices.Equal(b, was) || !slices.Equal(ticks, []int64{-2, -2, -2}) {
		t.Errorf("what was told shares memory: %v, %v", b, ticks)
	}
}

// P6.3

// most tells whether n is the most ticks that take no more than ps, by the chapter's own words.
func most(o api.Osc, ps, n int64) bool {
	limit := big.NewInt(ps)
	here, _ := takes(o, n)
	next, _ := takes(o, n+1)
	return 0 <= n && n <= maxTicks && here.Cmp(limit) <= 0 && (n == maxTicks || next.Cmp(limit) > 0)
}

func compareTicks(t *testing.T, o api.Osc, ps int64) {
	t.Helper()
	n, e := Ticks(o, ps)
	if !may(o) || ps < 0 || ps > maxTime {
		if n != 0 || e != api.ErrArg {
			t.Errorf("Ticks(%v, %d): got %d, %d", o, ps, n, e)
		}
		return
	}
	if e != api.OK || !most(o, ps, n) {
		t.Errorf("Ticks(%v, %d): got %d, %d", o, ps, n, e)
	}
}

func TestTicksByHand(t *testing.T) {
	o := api.Osc{Period: 1000, Drift: 50}
	for i, x := range []struct {
		o    api.Osc
		ps   int64
		want int64
		e    api.Errno
	}{
		{o, 0, 0, api.OK},
		{o, 999, 0, api.OK},
		{o, 1000, 1, api.OK},
		{o, 20000000, 19999, api.OK},
		{o, 20000001, 20000, api.OK},
		{o, 20001000, 20000, api.OK},
		{o, 20001001, 20001, api.OK},
		// A tick of less than a picosecond takes none at first.
		{api.Osc{Period: 1, Drift: -1}, 0, 1, api.OK},
		{api.Osc{Period: 1, Drift: -1, Rem: 1}, 0, 0, api.OK},
		{api.Osc{Period: 1, Rem: billion - 1}, 0, 0, api.OK},
		{api.Osc{Period: 1}, maxTicks - 1, maxTicks - 1, api.OK},
		{api.Osc{Period: 1}, maxTicks, maxTicks, api.OK},
		{api.Osc{Period: 1}, maxTicks + 1, maxTicks, api.OK},
		{api.Osc{Period: 1}, maxTime, maxTicks, api.OK},
		{api.Osc{Period: 1, Drift: -maxDrift}, maxTime, maxTicks, api.OK},
		{api.Osc{Period: 1 << 20}, maxTime, maxTicks, api.OK},
		{api.Osc{Period: 1 << 20}, maxTime - 1, maxTicks - 1, api.OK},
		{o, -1, 0, api.ErrArg},
		{o, maxTime + 1, 0, api.ErrArg},
		{api.Osc{}, 5, 0, api.ErrArg},
	} {
		if n, e := Ticks(x.o, x.ps); n != x.want || e != x.e {
			t.Errorf("%d: Ticks(%v, %d): got %d, %d", i, x.o, x.ps, n, e)
		}
	}
}

func TestTicksAtTheEdges(t *testing.T) {
	times := about(0, 1000, 20000000, 1<<40, 1<<50, maxTime, math.MaxInt64, math.MinInt64)
	eachOsc(func(o api.Osc) {
		for _, ps := range times {
			compareTicks(t, o, ps)
		}
	})
}

func TestTicksAboutWhatRunTakes(t *testing.T) {
	for _, o := range good() {
		for _, n := range []int64{1, 2, 19999, 20000, 20001, 1 << 30, maxTicks - 1, maxTicks} {
			ps, _, e := Run(o, n)
			if e != api.OK {
				continue
			}
			for _, p := range about(ps) {
				compareTicks(t, o, p)
			}
		}
	}
}

func TestTicksOfDrawn(t *testing.T) {
	l := drawn.Numbers(4*20000, 6)
	for ; len(l) > 0; l = l[4:] {
		compareTicks(t, drawnOsc(l), int64(l[3]<<8%[]uint64{5, 1 << 40, maxTime + 1}[l[3]>>25%3]))
	}
}

func TestApartByHand(t *testing.T) {
	slow := api.Osc{Period: 1000, Drift: 50}
	fast := api.Osc{Period: 1000, Drift: -50}
	long := api.Osc{Period: maxPeriod}
	for i, x := range []struct {
		a, b  api.Osc
		ticks int64
		want  int64
		e     api.Errno
	}{
		{slow, fast, 20000, 2, api.OK},
		{fast, slow, 20000, -2, api.OK},
		{slow, slow, 20000, 0, api.OK},
		{slow, fast, 0, 0, api.OK},
		// Down, each for itself.
		{slow, fast, 1, 1, api.OK},
		{slow, api.Osc{Period: 1000, Drift: 50, Rem: billion - 1}, 1, -1, api.OK},
		{long, api.Osc{Period: 1}, 1 << 30, (billion - 1) << 30, api.OK},
		{api.Osc{}, long, maxTicks, 0, api.ErrArg},
		{long, api.Osc{}, maxTicks, 0, api.ErrOver},
		{slow, api.Osc{}, 1, 0, api.ErrArg},
		{slow, long, maxTicks, 0, api.ErrOver},
		{slow, fast, -1, 0, api.ErrArg},
		{slow, fast, maxTicks + 1, 0, api.ErrArg},
	} {
		if n, e := Apart(x.a, x.b, x.ticks); n != x.want || e != x.e {
			t.Errorf("%d: Apart(%v, %v, %d): got %d, %d", i, x.a, x.b, x.ticks, n, e)
		}
	}
}

func TestApartOfPairs(t *testing.T) {
	l := append(good(), api.Osc{}, api.Osc{Period: 1, Drift: maxDrift + 1})
	for _, a := range l {
		for i := 0; i < len(l); i += 3 {
			for _, n := range []int64{0, 1, 20000, maxTicks} {
				comparePair(t, a, l[i], n)
			}
		}
	}
}

func comparePair(t *testing.T, a, b api.Osc, n int64) {
	t.Helper()
	long, _, f := run(a, n)
	short, _, g := run(b, n)
	if f == api.OK {
		f = g
	}
	want := long - short
	if f != api.OK {
		want = 0
	}
	if d, e := Apart(a, b, n); d != want || e != f {
		t.Errorf("Apart(%v, %v, %d): got %d, %d, not %d, %d", a, b, n, d, e, want, f)
	}
}

// P6.4

func TestInPartsAsAtOnce(t *testing.T) {
	l := drawn.Numbers(8*3000, 6)
	for ; len(l) > 0; l = l[8:] {
		o := drawnOsc(l)
		var parts []int64
		var all, sum int64
		for _, n := range l[3 : 3+1+l[7]%4] {
			parts = append(parts, int64(n%(1<<28)))
			all += int64(n % (1 << 28))
		}
		once, p, e := Run(o, all)
		each, q, f := Many(o, parts...)
		for _, ps := range each {
			sum += ps
		}
		if e != api.OK || f != api.OK || sum != once || p != q {
			t.Fatalf("of %v, %v: in parts %d, %v, %d, at once %d, %v, %d", o, parts, sum, q, f, once, p, e)
		}
	}
}

func TestFasterNeverTakesLonger(t *testing.T) {
	l := drawn.Numbers(4*3000, 6)
	for ; len(l) > 0; l = l[4:] {
		slow := drawnOsc(l)
		for _, d := range []int64{1, 2, 1000, 2 * maxDrift} {
			fast := slow
			fast.Drift = max(slow.Drift-d, -maxDrift)
			n := int64(l[3] % (1 << 30))
			if apart, e := Apart(slow, fast, n); apart < 0 || e != api.OK {
				t.Fatalf("Apart(%v, %v, %d): got %d, %d", slow, fast, n, apart, e)
			}
			a, _ := Ticks(slow, n)
			if b, _ := Ticks(fast, n); b < a {
				t.Fatalf("in %d: %v ticks %d times, %v %d", n, slow, a, fast, b)
			}
		}
	}
}

func TestTicksGiveBackWhatRan(t *testing.T) {
	for _, o := range good() {
		if o.Period == 1 {
			// Of less than a picosecond a tick, more may take as long.
			continue
		}
		for _, n := range []int64{0, 1, 2, 999, 1 << 20, 1 << 30} {
			ps, _, e := Run(o, n)
			if back, f := Ticks(o, ps); back != n || e != api.OK || f != api.OK {
				t.Errorf("%v ran %d in %d, %d: %d, %d", o, n, ps, e, back, f)
			}
		}
	}
}
