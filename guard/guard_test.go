package guard

import (
	"math"
	"math/big"
	"slices"
	"testing"

	"pallet/api"
	"pallet/drawn"
	"pallet/medl"
)

// The chapters' numbers, written out: a limit that is mistaken elsewhere is noticed here.
const (
	maxTime   = 1152921504606846976
	maxSlots  = 4294967296
	maxPeriod = 1000000000
	maxSlot   = 1048576
	maxNodes  = 16
)

// four is a plain schedule: with 10 picoseconds a tick its slots have 1000, and a frame is sent 100 to 300 behind a slot's beginning.
var four = api.Medl{Nodes: 4, Slot: 100, Lead: 20, Frame: 30, Window: 10}

// about are the numbers on, below and above each of l.
func about(l ...int64) []int64 {
	var all []int64
	for _, n := range l {
		all = append(all, n)
		if n > math.MinInt64 {
			all = append(all, n-1)
		}
		if n < math.MaxInt64 {
			all = append(all, n+1)
		}
	}
	slices.Sort(all)
	return slices.Compact(all)
}

// good are schedules that may be: with little room for windows, with much, and plain ones.
func good() []api.Medl {
	l := []api.Medl{four}
	for _, n := range []int{2, 3, maxNodes} {
		for _, s := range []int64{16, 17, maxSlot} {
			half := s/2 - 1
			l = append(l,
				api.Medl{Nodes: n, Slot: s, Lead: 1, Frame: 1, Window: 1},
				api.Medl{Nodes: n, Slot: s, Lead: s - 3, Frame: 1, Window: 1},
				api.Medl{Nodes: n, Slot: s, Lead: half, Frame: s - 2*half - 1, Window: half})
		}
	}
	return l
}

// bad are schedules that may not be.
func bad() []api.Medl {
	return []api.Medl{
		{},
		{Nodes: 1, Slot: 100, Lead: 20, Frame: 30, Window: 10},
		{Nodes: 17, Slot: 100, Lead: 20, Frame: 30, Window: 10},
		{Nodes: 4, Slot: 15, Lead: 2, Frame: 3, Window: 1},
		{Nodes: 4, Slot: maxSlot + 1, Lead: 20, Frame: 30, Window: 10},
		{Nodes: 4, Slot: 100, Lead: 20, Frame: 30, Window: 21},
		{Nodes: 4, Slot: 100, Lead: 20, Frame: 30},
		{Nodes: 4, Slot: 100, Lead: 20, Frame: 70, Window: 10},
		{Nodes: 4, Slot: math.MaxInt64, Lead: math.MaxInt64, Frame: 30, Window: 10},
		{Nodes: math.MinInt, Slot: math.MinInt64, Lead: math.MinInt64, Frame: math.MinInt64, Window: math.MinInt64},
	}
}

// drawnMedl is a schedule that may be, of two drawn numbers.
func drawnMedl(a, b uint64) api.Medl {
	m := api.Medl{Nodes: 2 + int(a%15)}
	m.Slot = 16 + int64(a>>8%[]uint64{8, 1000, maxSlot - 15}[a>>40%3])
	m.Window = 1 + int64(b%uint64((m.Slot-2)/2))
	m.Lead = m.Window + int64(b>>13%uint64(m.Slot-1-2*m.Window))
	m.Frame = 1 + int64(b>>26%uint64(m.Slot-1-m.Lead-m.Window))
	return m
}

// drawnPeriod is a period that may be.
func drawnPeriod(n uint64) int64 {
	return 1 + int64(n>>3%[]uint64{3, 1000, maxPeriod}[n%3])
}

func periodMayBe(period int64) bool { return 1 <= period && period <= maxPeriod }

// mayBe tells whether a guardian may be, by the chapter's own words.
func mayBe(g api.Guard) bool {
	if !g.Known {
		return g.Slot == 0 && g.At == 0
	}
	return g.Slot <= maxSlots && -maxTime <= g.At && g.At <= maxTime
}

// manySlots are numbers of slots at the edges, those above the greatest among them.
func manySlots() []uint64 {
	return []uint64{0, 1, 2, 3, 6, 15, 16, 17, 1 << 31, maxSlots - 17, maxSlots - 16, maxSlots - 3,
		maxSlots - 2, maxSlots - 1, maxSlots, maxSlots + 1, 1 << 33, math.MaxInt64, 1 << 63, math.MaxUint64}
}

// guardians are of all edges, those that may not be among them.
func guardians() []api.Guard {
	var l []api.Guard
	for _, at := range append(about(-maxTime, 0, maxTime), 4800, math.MaxInt64, math.MinInt64) {
		for _, slot := range manySlots() {
			for i := range 4 {
				l = append(l, api.Guard{On: i%2 > 0, Known: i/2 > 0, Slot: slot, At: at})
			}
		}
	}
	return l
}

// P12.1

func TestCheckByHand(t *testing.T) {
	for i, x := range []struct {
		g    api.Guard
		want api.Errno
	}{
		{api.Guard{}, api.OK},
		{api.Guard{On: true}, api.OK},
		{api.Guard{Known: true}, api.OK},
		{api.Guard{On: true, Known: true}, api.OK},
		{api.Guard{On: true, Known: true, Slot: 6, At: 4800}, api.OK},
		{api.Guard{Known: true, Slot: 6, At: -4800}, api.OK},
		{api.Guard{Known: true, Slot: 1 << 32, At: 1 << 60}, api.OK},
		{api.Guard{Known: true, At: -1 << 60}, api.OK},
		{api.Guard{Known: true, Slot: 1<<32 + 1}, api.ErrArg},
		{api.Guard{Known: true, Slot: math.MaxUint64}, api.ErrArg},
		{api.Guard{On: true, Known: true, At: 1<<60 + 1}, api.ErrArg},
		{api.Guard{On: true, Known: true, At: -1<<60 - 1}, api.ErrArg},
		{api.Guard{Known: true, At: math.MaxInt64}, api.ErrArg},
		{api.Guard{Known: true, At: math.MinInt64}, api.ErrArg},
		// One that does not know the time, and has one.
		{api.Guard{Slot: 1}, api.ErrArg},
		{api.Guard{At: 1}, api.ErrArg},
		{api.Guard{At: -1}, api.ErrArg},
		{api.Guard{On: true, Slot: 1}, api.ErrArg},
		{api.Guard{On: true, At: 1}, api.ErrArg},
		{api.Guard{On: true, Slot: 6, At: 4800}, api.ErrArg},
		{api.Guard{On: true, Slot: 1 << 32}, api.ErrArg},
		{api.Guard{Slot: 1<<32 + 1}, api.ErrArg},
	} {
		if e := Check(x.g); e != x.want {
			t.Errorf("%d: Check(%v) is %d, not %d", i, x.g, e, x.want)
		}
	}
}

func TestCheckAtTheEdges(t *testing.T) {
	for _, g := range guardians() {
		want := api.ErrArg
		if mayBe(g) {
			want = api.OK
		}
		if e := Check(g); e != want {
			t.Errorf("Check(%v) is %d, not %d", g, e, want)
		}
	}
}

// nearest is what Slots must answer, by the chapter's own words, in numbers without end: of the numbers of slots about it the one that is nearest.
func nearest(m api.Medl, period, far int64) (int64, int64, api.Errno) {
	if medl.Check(m) != api.OK || !periodMayBe(period) || far < -maxTime || far > maxTime {
		return 0, 0, api.ErrArg
	}
	length := new(big.Int).Mul(big.NewInt(m.Slot), big.NewInt(period))
	n := new(big.Int).Quo(big.NewInt(far), length)
	n.Sub(n, big.NewInt(2))
	var best, bestMore *big.Int
	for range 5 {
		more := new(big.Int).Mul(n, length)
		more.Sub(big.NewInt(far), more)
		// The numbers rise: of two that are as near the later one is the greater one.
		if best == nil || more.CmpAbs(bestMore) <= 0 {
			best, bestMore = new(big.Int).Set(n), more
		}
		n.Add(n, big.NewInt(1))
	}
	return best.Int64(), bestMore.Int64(), api.OK
}

func compareSlots(t *testing.T, m api.Medl, period, far int64) {
	t.Helper()
	n, more, f := nearest(m, period, far)
	if gotN, gotMore, e := Slots(m, period, far); gotN != n || gotMore != more || e != f {
		t.Errorf("Slots(%v, %d, %d): got %d, %d, %d, not %d, %d, %d", m, period, far, gotN, gotMore, e, n, more, f)
	}
}

func TestSlotsByHand(t *testing.T) {
	odd := api.Medl{Nodes: 4, Slot: 17, Lead: 2, Frame: 3, Window: 1}
	long := api.Medl{Nodes: 4, Slot: maxSlot, Lead: 2, Frame: 3, Window: 1}
	for i, x := range []struct {
		m            api.Medl
		period, far  int64
		want, behind int64
		e            api.Errno
	}{
		{four, 10, 1499, 1, 499, api.OK},
		{four, 10, 1500, 2, -500, api.OK},
		{four, 10, 1501, 2, -499, api.OK},
		{four, 10, 1000, 1, 0, api.OK},
		{four, 10, 999, 1, -1, api.OK},
		{four, 10, 0, 0, 0, api.OK},
		{four, 10, 499, 0, 499, api.OK},
		{four, 10, 500, 1, -500, api.OK},
		{four, 10, -1, 0, -1, api.OK},
		{four, 10, -499, 0, -499, api.OK},
		{four, 10, -500, 0, -500, api.OK},
		{four, 10, -501, -1, 499, api.OK},
		{four, 10, -1500, -1, -500, api.OK},
		{four, 10, -1501, -2, 499, api.OK},
		{four, 10, -1000, -1, 0, api.OK},
		// Of what can't be halved there is no half.
		{odd, 1, 8, 0, 8, api.OK},
		{odd, 1, 9, 1, -8, api.OK},
		{odd, 1, -8, 0, -8, api.OK},
		{odd, 1, -9, -1, 8, api.OK},
		{odd, 2, 17, 1, -17, api.OK},
		{odd, 2, -17, 0, -17, api.OK},
		// As far as a time goes.
		{four, 10, 1 << 60, 1152921504606847, -24, api.OK},
		{four, 10, -1 << 60, -1152921504606847, 24, api.OK},
		{long, maxPeriod, 1 << 60, 1100, -512095393153024, api.OK},
		{long, maxPeriod, -1 << 60, -1100, 512095393153024, api.OK},
		{long, maxPeriod, maxSlot * maxPeriod / 2, 1, -maxSlot * maxPeriod / 2, api.OK},
		{long, maxPeriod, maxSlot*maxPeriod/2 - 1, 0, maxSlot*maxPeriod/2 - 1, api.OK},
		{four, 10, 1<<60 + 1, 0, 0, api.ErrArg},
		{four, 10, -1<<60 - 1, 0, 0, api.ErrArg},
		{four, 10, math.MaxInt64, 0, 0, api.ErrArg},
		{four, 10, math.MinInt64, 0, 0, api.ErrArg},
		{four, 0, 1500, 0, 0, api.ErrArg},
		{four, -10, 1500, 0, 0, api.ErrArg},
		{four, maxPeriod + 1, 1500, 0, 0, api.ErrArg},
		{four, math.MaxInt64, 1500, 0, 0, api.ErrArg},
		{four, math.MinInt64, 1500, 0, 0, api.ErrArg},
		{api.Medl{}, 10, 1500, 0, 0, api.ErrArg},
	} {
		if n, more, e := Slots(x.m, x.period, x.far); n != x.want || more != x.behind || e != x.e {
			t.Errorf("%d: Slots(%v, %d, %d): got %d, %d, %d", i, x.m, x.period, x.far, n, more, e)
		}
		compareSlots(t, x.m, x.period, x.far)
	}
}

func TestSlotsOfAllShort(t *testing.T) {
	for _, slot := range []int64{16, 17, 18} {
		m := api.Medl{Nodes: 2, Slot: slot, Lead: 2, Frame: 3, Window: 1}
		for period := int64(-1); period <= 4; period++ {
			for far := int64(-300); far <= 300; far++ {
				compareSlots(t, m, period, far)
			}
		}
	}
}

func TestSlotsAtTheEdges(t *testing.T) {
	for _, m := range append(good(), bad()...) {
		for _, period := range about(0, 10, maxPeriod, math.MaxInt64, math.MinInt64) {
			fars := []int64{-maxTime, 0, maxTime, math.MaxInt64, math.MinInt64}
			if periodMayBe(period) && medl.Check(m) == api.OK {
				length := m.Slot * period
				fars = append(fars, length/2, -length/2, length, -length, 3*length+length/2, -3*length-length/2, maxTime-length/2, maxTime/length*length)
			}
			for _, far := range about(fars...) {
				compareSlots(t, m, period, far)
			}
		}
	}
}

func TestSlotsOfDrawn(t *testing.T) {
	for l := drawn.Numbers(4*20000, 1); len(l) > 0; l = l[4:] {
		m, period := drawnMedl(l[0], l[1]), drawnPeriod(l[2])
		far := int64(l[3]<<8)%maxTime - maxTime/2
		compareSlots(t, m, period, far)
		compareSlots(t, m, period, far%(20*m.Slot*period))
	}
}
