package guard

import (
	"math"
	"math/big"
	"testing"

	"pallet/api"
	"pallet/drawn"
	"pallet/medl"
)

// opened is what Opens must answer, by the chapter's own words, in numbers without end.
func opened(g api.Guard, m api.Medl, period int64, node int) (int64, int64, api.Errno) {
	if !mayBe(g) || medl.Check(m) != api.OK || !periodMayBe(period) || node < 0 || node >= m.Nodes || !g.Known {
		return 0, 0, api.ErrArg
	}
	slot := g.Slot + 1
	for slot%uint64(m.Nodes) != uint64(node) {
		slot++
	}
	if slot > maxSlots {
		return 0, 0, api.ErrOver
	}
	// edge is so many ticks behind the beginning of the frame that is in time.
	edge := func(ticks int64) *big.Int {
		all := big.NewInt(int64(slot - g.Slot))
		all.Mul(all, big.NewInt(m.Slot))
		all.Add(all, big.NewInt(m.Lead))
		all.Add(all, big.NewInt(ticks))
		all.Mul(all, big.NewInt(period))
		return all.Add(all, big.NewInt(g.At))
	}
	from, to := edge(-m.Window), edge(m.Window)
	if from.CmpAbs(big.NewInt(maxTime)) > 0 || to.CmpAbs(big.NewInt(maxTime)) > 0 {
		return 0, 0, api.ErrOver
	}
	return from.Int64(), to.Int64(), api.OK
}

// compareOpens tells what Opens answered.
func compareOpens(t *testing.T, g api.Guard, m api.Medl, period int64, node int) api.Errno {
	t.Helper()
	from, to, f := opened(g, m, period, node)
	gotFrom, gotTo, e := Opens(g, m, period, node)
	if gotFrom != from || gotTo != to || e != f {
		t.Errorf("Opens(%v, %v, %d, %d): got %d, %d, %d, not %d, %d, %d", g, m, period, node, gotFrom, gotTo, e, from, to, f)
	}
	return e
}

// P12.3

func TestOpensByHand(t *testing.T) {
	g := known(6, 4800)
	for i, x := range []struct {
		g        api.Guard
		node     int
		from, to int64
		e        api.Errno
	}{
		{g, 3, 5900, 6100, api.OK},
		{g, 0, 6900, 7100, api.OK},
		{g, 1, 7900, 8100, api.OK},
		// The slot's own node has to wait for a round.
		{g, 2, 8900, 9100, api.OK},
		{known(0, 0), 1, 1100, 1300, api.OK},
		{known(0, 0), 0, 4100, 4300, api.OK},
		{known(0, -5000), 1, -3900, -3700, api.OK},
		{known(0, -1<<60), 1, -1<<60 + 1100, -1<<60 + 1300, api.OK},
		// It need not be on.
		{api.Guard{Known: true, Slot: 6, At: 4800}, 3, 5900, 6100, api.OK},
		// Up to the last time, and over it: the end alone, or both.
		{known(6, 1<<60-1300), 3, 1<<60 - 200, 1 << 60, api.OK},
		{known(6, 1<<60-1299), 3, 0, 0, api.ErrOver},
		{known(6, 1<<60-1100), 3, 0, 0, api.ErrOver},
		{known(6, 1<<60-1099), 3, 0, 0, api.ErrOver},
		{known(6, 1<<60-200), 3, 0, 0, api.ErrOver},
		{known(6, 1<<60), 3, 0, 0, api.ErrOver},
		{known(6, 1<<60-4300), 2, 1<<60 - 200, 1 << 60, api.OK},
		{known(6, 1<<60-4299), 2, 0, 0, api.ErrOver},
		// Up to the last slot, and over it.
		{known(1<<32-1, 0), 0, 1100, 1300, api.OK},
		{known(1<<32-1, 0), 1, 0, 0, api.ErrOver},
		{known(1<<32-1, 0), 3, 0, 0, api.ErrOver},
		{known(1<<32-4, 0), 0, 4100, 4300, api.OK},
		{known(1<<32, 0), 0, 0, 0, api.ErrOver},
		{known(1<<32, 0), 3, 0, 0, api.ErrOver},
		// No such node, or not known.
		{g, 4, 0, 0, api.ErrArg},
		{g, -1, 0, 0, api.ErrArg},
		{g, math.MaxInt, 0, 0, api.ErrArg},
		{g, math.MinInt, 0, 0, api.ErrArg},
		{api.Guard{}, 1, 0, 0, api.ErrArg},
		{api.Guard{On: true}, 1, 0, 0, api.ErrArg},
		{api.Guard{On: true, Slot: 6, At: 4800}, 3, 0, 0, api.ErrArg},
		{known(1<<32+1, 4800), 3, 0, 0, api.ErrArg},
		{known(6, 1<<60+1), 3, 0, 0, api.ErrArg},
		{known(6, -1<<60-1), 3, 0, 0, api.ErrArg},
		// What is amiss comes ahead of what goes over.
		{known(1<<32, 0), 4, 0, 0, api.ErrArg},
		{known(6, 1<<60), 4, 0, 0, api.ErrArg},
		{known(6, 1<<60), -1, 0, 0, api.ErrArg},
	} {
		if from, to, e := Opens(x.g, four, 10, x.node); from != x.from || to != x.to || e != x.e {
			t.Errorf("%d: got %d, %d, %d, not %d, %d, %d", i, from, to, e, x.from, x.to, x.e)
		}
		compareOpens(t, x.g, four, 10, x.node)
	}
}

func TestOpensOfWhatMayNotBe(t *testing.T) {
	for _, g := range []api.Guard{known(6, 4800), known(1<<32, 1<<60)} {
		for _, m := range bad() {
			if e := compareOpens(t, g, m, 10, 1); e != api.ErrArg {
				t.Errorf("%v: got %d", m, e)
			}
		}
		for _, period := range []int64{0, -1, -10, maxPeriod + 1, math.MaxInt64, math.MinInt64} {
			if e := compareOpens(t, g, four, period, 1); e != api.ErrArg {
				t.Errorf("%d: got %d", period, e)
			}
		}
	}
}

func TestOpensAtTheEdges(t *testing.T) {
	for _, m := range good() {
		for _, period := range []int64{1, 10, maxPeriod} {
			length, lead, window := m.Slot*period, m.Lead*period, m.Window*period
			ats := []int64{-maxTime, 0, maxTime}
			for n := int64(1); n <= int64(m.Nodes); n++ {
				ats = append(ats, maxTime-n*length, maxTime-n*length-lead, maxTime-n*length-lead-window, maxTime-n*length-lead+window)
			}
			for _, at := range about(ats...) {
				for _, slot := range []uint64{0, 1, 6, maxSlots - 16, maxSlots - 3, maxSlots - 1, maxSlots} {
					for node := -1; node <= m.Nodes; node++ {
						compareOpens(t, known(slot, at), m, period, node)
					}
				}
			}
		}
	}
}

func TestOpensOfEachGuardian(t *testing.T) {
	for _, g := range guardians() {
		for node := -1; node <= 4; node++ {
			compareOpens(t, g, four, 10, node)
		}
	}
}

func TestOpensOfDrawn(t *testing.T) {
	for l := drawn.Numbers(5*20000, 5); len(l) > 0; l = l[5:] {
		m, period := drawnMedl(l[0], l[1]), drawnPeriod(l[2])
		g := known(l[3]%(maxSlots+1), int64(l[4]<<8)%maxTime)
		compareOpens(t, g, m, period, int(l[4]>>40)%m.Nodes)
		// About where times end.
		g.At = maxTime - int64(l[4])%(int64(m.Nodes+1)*m.Slot*period)
		compareOpens(t, g, m, period, int(l[4]>>40)%m.Nodes)
	}
}
