package guard

import (
	"math"
	"testing"

	"pallet/api"
	"pallet/drawn"
	"pallet/medl"
)

// passed is what Pass must answer, by the chapter's own words: of a guardian that knows the time it looks through the slots in which something may pass.
func passed(g api.Guard, m api.Medl, period int64, node int, f api.Frame, t int64) (api.Guard, bool, api.Errno) {
	if !mayBe(g) || medl.Check(m) != api.OK || !periodMayBe(period) || node < 0 || node >= m.Nodes || t < 0 || t > maxTime {
		return g, false, api.ErrArg
	}
	theirs := func(slot uint64) bool { return slot <= maxSlots && slot%uint64(m.Nodes) == uint64(node) }
	began := t - m.Lead*period
	switch {
	case !g.On:
		return g, true, api.OK
	case !g.Known:
		if f.Kind != 2 || f.From != node || !theirs(f.Slot) {
			return g, false, api.OK
		}
		return api.Guard{On: true, Known: true, Slot: f.Slot, At: began}, true, api.OK
	}
	later, length, window := began-g.At, m.Slot*period, m.Window*period
	if later < -maxTime || later > maxTime {
		return g, false, api.OK
	}
	for n := max(later/length-2, 0); n <= later/length+2; n++ {
		slot, off := g.Slot+uint64(n), later-n*length
		if theirs(slot) && -window <= off && off <= window {
			return api.Guard{On: true, Known: true, Slot: slot, At: began}, true, api.OK
		}
	}
	return g, false, api.OK
}

// comparePass tells what Pass answered, if nothing is wrong.
func comparePass(t *testing.T, g api.Guard, m api.Medl, period int64, node int, f api.Frame, at int64) (api.Guard, bool) {
	t.Helper()
	want, wantIs, wantE := passed(g, m, period, node, f, at)
	h, is, e := Pass(g, m, period, node, f, at)
	if h != want || is != wantIs || e != wantE {
		t.Errorf("Pass(%v, %v, %d, %d, %v, %d): got %v, %v, %d, not %v, %v, %d", g, m, period, node, f, at, h, is, e, want, wantIs, wantE)
	}
	return h, is
}

// known is a guardian that is on, and knows the time.
func known(slot uint64, at int64) api.Guard {
	return api.Guard{On: true, Known: true, Slot: slot, At: at}
}

func cold(from int, slot uint64) api.Frame {
	return api.Frame{Kind: 2, From: from, Slot: slot}
}

// P12.2

func TestPassByHand(t *testing.T) {
	g := known(6, 4800)
	for i, x := range []struct {
		g    api.Guard
		node int
		t    int64
		want api.Guard
		is   bool
	}{
		// Its own slot, once more.
		{g, 2, 5000, known(6, 4800), true},
		{g, 2, 4900, known(6, 4700), true},
		{g, 2, 5100, known(6, 4900), true},
		{g, 2, 4899, g, false},
		{g, 2, 5101, g, false},
		// The next ones, too early, early, in time, late, too late.
		{g, 3, 5899, g, false},
		{g, 3, 5900, known(7, 5700), true},
		{g, 3, 6000, known(7, 5800), true},
		{g, 3, 6100, known(7, 5900), true},
		{g, 3, 6101, g, false},
		{g, 0, 7050, known(8, 6850), true},
		{g, 1, 7950, known(9, 7750), true},
		{g, 2, 9000, known(10, 8800), true},
		{g, 3, 10000, known(11, 9800), true},
		{g, 2, 4001000 + 4000, known(4006, 4001000+3800), true},
		{g, 2, 4001000 + 4101, g, false},
		// Another node's.
		{g, 2, 6000, g, false},
		{g, 0, 6000, g, false},
		{g, 1, 6000, g, false},
		{g, 3, 5000, g, false},
		// Between two slots.
		{g, 2, 5500, g, false},
		{g, 3, 5500, g, false},
		// A slot behind which one has passed.
		{g, 1, 4000, g, false},
		{g, 2, 1000, g, false},
		{g, 2, 0, g, false},
		// Its slot may have begun ahead of all times from 0 on.
		{known(0, 0), 0, 200, known(0, 0), true},
		{known(0, 0), 0, 100, known(0, -100), true},
		{known(0, -100), 0, 0, known(0, -200), true},
		{known(0, -200), 1, 1000, known(1, 800), true},
		{known(0, 0), 0, 99, known(0, 0), false},
		// To the last slot, and no further.
		{known(1<<32-1, 0), 3, 200, known(1<<32-1, 0), true},
		{known(1<<32-1, 0), 0, 1200, known(1<<32, 1000), true},
		{known(1<<32, 0), 0, 200, known(1<<32, 0), true},
		{known(1<<32, 0), 1, 1200, known(1<<32, 0), false},
		{known(1<<32, 0), 0, 4200, known(1<<32, 0), false},
		{known(1<<32-4, 0), 0, 8200, known(1<<32-4, 0), false},
		// What is no time later.
		{known(0, -1<<60), 0, 200, known(0, -1<<60), false},
		{known(0, -1<<60), 1, 224, known(0, -1<<60), false},
		{known(0, -1<<60), 0, 1 << 60, known(0, -1<<60), false},
		{known(0, 1<<60), 0, 1 << 60, known(0, 1<<60), false},
		{known(0, 1<<60-200), 0, 1 << 60, known(0, 1<<60-200), true},
		{known(0, 1<<60-300), 0, 1 << 60, known(0, 1<<60-200), true},
		{known(0, 1<<60), 0, 0, known(0, 1<<60), false},
	} {
		h, is, e := Pass(x.g, four, 10, x.node, api.Frame{}, x.t)
		if h != x.want || is != x.is || e != api.OK {
			t.Errorf("%d: got %v, %v, %d, not %v, %v", i, h, is, e, x.want, x.is)
		}
		comparePass(t, x.g, four, 10, x.node, api.Frame{}, x.t)
	}
}

// Of one that knows the time it is all one what is sent.
func TestPassOfAnyFrame(t *testing.T) {
	g := known(6, 4800)
	for _, f := range frames() {
		for node := range 4 {
			for _, at := range []int64{5000, 6000, 6101, 7000} {
				comparePass(t, g, four, 10, node, f, at)
			}
		}
	}
}

// frames are of all kinds, nodes and slots at the edges.
func frames() []api.Frame {
	var l []api.Frame
	for _, kind := range append(about(1, 2), math.MaxInt64, math.MinInt64) {
		for _, from := range append(about(0, 3, 15), math.MaxInt64, math.MinInt64) {
			for _, slot := range manySlots() {
				l = append(l, api.Frame{Kind: int(kind), From: int(from), Slot: slot, Members: uint16(slot)})
			}
		}
	}
	return l
}

func TestPassOfTheFirstByHand(t *testing.T) {
	g := api.Guard{On: true}
	for i, x := range []struct {
		node int
		f    api.Frame
		t    int64
		want api.Guard
		is   bool
	}{
		{2, cold(2, 6), 5000, known(6, 4800), true},
		{2, cold(2, 2), 5000, known(2, 4800), true},
		{0, cold(0, 0), 5000, known(0, 4800), true},
		// The guardian knows the time then, though all it knows is 0.
		{0, cold(0, 0), 200, known(0, 0), true},
		{0, cold(0, 0), 0, known(0, -200), true},
		{1, cold(1, 1), 1 << 60, known(1, 1<<60-200), true},
		{0, cold(0, 1<<32), 5000, known(1<<32, 4800), true},
		{3, cold(3, 1<<32-1), 5000, known(1<<32-1, 4800), true},
		// Members play no part.
		{2, api.Frame{Kind: 2, From: 2, Slot: 6, Members: 65535}, 5000, known(6, 4800), true},
		// Of another kind, node, or slot.
		{2, api.Frame{Kind: 1, From: 2, Slot: 6}, 5000, g, false},
		{2, api.Frame{Kind: 3, From: 2, Slot: 6}, 5000, g, false},
		{2, api.Frame{From: 2, Slot: 6}, 5000, g, false},
		{1, cold(2, 6), 5000, g, false},
		{2, cold(1, 6), 5000, g, false},
		{1, cold(1, 6), 5000, g, false},
		{2, cold(2, 7), 5000, g, false},
		{2, cold(2, 5), 5000, g, false},
		{0, cold(0, 1<<32+4), 5000, g, false},
		{1, cold(1, 1<<32+1), 5000, g, false},
		{3, cold(3, math.MaxUint64), 5000, g, false},
		{0, api.Frame{}, 5000, g, false},
	} {
		h, is, e := Pass(g, four, 10, x.node, x.f, x.t)
		if h != x.want || is != x.is || e != api.OK {
			t.Errorf("%d: got %v, %v, %d, not %v, %v", i, h, is, e, x.want, x.is)
		}
		comparePass(t, g, four, 10, x.node, x.f, x.t)
	}
}

func TestPassOfTheFirstAtTheEdges(t *testing.T) {
	for _, m := range []api.Medl{four, {Nodes: 2, Slot: 16, Lead: 1, Frame: 1, Window: 1}, {Nodes: 16, Slot: maxSlot, Lead: 3, Frame: 1, Window: 3}} {
		for _, f := range frames() {
			for _, node := range []int{-1, 0, 1, 2, 3, 15, 16} {
				for _, at := range []int64{-1, 0, 5000, maxTime, maxTime + 1} {
					comparePass(t, api.Guard{On: true}, m, 10, node, f, at)
				}
			}
		}
	}
}

// One that is not on lets all through, what it knows and what is sent being all one, and stays as it is.
func TestPassOfOneThatIsNotOn(t *testing.T) {
	for _, g := range []api.Guard{{}, {Known: true}, {Known: true, Slot: 6, At: 4800}, {Known: true, Slot: 1 << 32, At: -1 << 60}} {
		for _, f := range frames() {
			for node := range 4 {
				for _, at := range []int64{0, 77, 5000, 6101, 1 << 60} {
					if h, is, e := Pass(g, four, 10, node, f, at); h != g || !is || e != api.OK {
						t.Errorf("Pass(%v, %d, %v, %d): got %v, %v, %d", g, node, f, at, h, is, e)
					}
				}
			}
		}
		for _, at := range []int64{-1, 1<<60 + 1} {
			if h, is, e := Pass(g, four, 10, 1, api.Frame{}, at); h != g || is || e != api.ErrArg {
				t.Errorf("Pass(%v, %d): got %v, %v, %d", g, at, h, is, e)
			}
		}
	}
}

// Each argument may not be, one by one, in guardians that are on, or not, and know the time, or not.
func TestPassOfWhatMayNotBe(t *testing.T) {
	type call struct {
		g      api.Guard
		m      api.Medl
		period int64
		node   int
		t      int64
	}
	for _, g := range []api.Guard{{}, {On: true}, {Known: true}, known(6, 4800)} {
		var calls []call
		for _, m := range bad() {
			calls = append(calls, call{g, m, 10, 1, 5000})
		}
		for _, period := range []int64{0, -1, -10, maxPeriod + 1, math.MaxInt64, math.MinInt64} {
			calls = append(calls, call{g, four, period, 1, 5000})
		}
		for _, node := range []int{-1, 4, 5, 15, 16, math.MaxInt, math.MinInt} {
			calls = append(calls, call{g, four, 10, node, 5000})
		}
		for _, at := range []int64{-1, -200, -1 << 60, 1<<60 + 1, math.MaxInt64, math.MinInt64} {
			calls = append(calls, call{g, four, 10, 1, at})
		}
		for i, x := range calls {
			// A frame that would be let through.
			if h, is, e := Pass(x.g, x.m, x.period, x.node, cold(1, 5), x.t); h != g || is || e != api.ErrArg {
				t.Errorf("%v, %d: got %v, %v, %d", g, i, h, is, e)
			}
		}
	}
	for _, g := range guardians() {
		if mayBe(g) {
			continue
		}
		if h, is, e := Pass(g, four, 10, 1, cold(1, 5), 5000); h != g || is || e != api.ErrArg {
			t.Errorf("%v: got %v, %v, %d", g, h, is, e)
		}
	}
}

// sent are times about the edges of windows, and about the middles between slots, behind a guardian's last slot, and ahead of it.
func sent(g api.Guard, m api.Medl, period int64) []int64 {
	length, window, lead := m.Slot*period, m.Window*period, m.Lead*period
	l := []int64{0, lead, 5000, maxTime, math.MaxInt64, math.MinInt64}
	for n := int64(-2); n <= int64(m.Nodes)+1; n++ {
		middle := g.At + n*length + lead
		l = append(l, middle, middle-window, middle+window, middle+length/2)
	}
	return about(l...)
}

func TestPassAtTheEdges(t *testing.T) {
	for _, m := range good() {
		for _, period := range []int64{1, 10, maxPeriod} {
			for _, slot := range []uint64{0, 1, 6, maxSlots - 16, maxSlots - 1, maxSlots} {
				for _, at := range []int64{-maxTime, -1, 0, 4800, maxTime - 4800, maxTime} {
					g := known(slot, at)
					for _, when := range sent(g, m, period) {
						for _, node := range []int{0, 1, m.Nodes / 2, m.Nodes - 1, m.Nodes} {
							comparePass(t, g, m, period, node, cold(node, uint64(node)), when)
						}
					}
				}
			}
		}
	}
}

func TestPassOfEachGuardian(t *testing.T) {
	for _, g := range guardians() {
		for _, when := range []int64{-1, 0, 200, 5000, 6000, maxTime, maxTime + 1} {
			for node := -1; node <= 4; node++ {
				comparePass(t, g, four, 10, node, cold(node, 6), when)
			}
		}
	}
}

func TestPassOfDrawn(t *testing.T) {
	through := 0
	const many = 30000
	for l := drawn.Numbers(6*many, 3); len(l) > 0; l = l[6:] {
		m, period := drawnMedl(l[0], l[1]), drawnPeriod(l[2])
		g := known(l[3]%(maxSlots+1), int64(l[4]))
		// About a slot of the node's: in time, or up to twice as much off.
		n := int64(l[5] % 100)
		node := int((g.Slot + uint64(n)) % uint64(m.Nodes))
		off := int64(l[5]>>7)%(4*m.Window*period) - 2*m.Window*period
		when := g.At + n*m.Slot*period + m.Lead*period + off
		if _, is := comparePass(t, g, m, period, node, api.Frame{}, when); is {
			through++
		}
		comparePass(t, g, m, period, (node+1)%m.Nodes, api.Frame{}, when)
		comparePass(t, g, m, period, node, api.Frame{}, int64(l[2]<<8)%maxTime)
	}
	// Rows of which nothing passes, or all does, would tell nothing.
	if through < many/4 || through > 3*many/4 {
		t.Errorf("%d of %d passed", through, many)
	}
}
