package guard

import (
	"testing"

	"pallet/api"
	"pallet/drawn"
)

// P12.4

func pass(t *testing.T, g api.Guard, m api.Medl, period int64, node int, f api.Frame, at int64) (api.Guard, bool) {
	t.Helper()
	h, is, e := Pass(g, m, period, node, f, at)
	if e != api.OK {
		t.Fatalf("Pass(%v, %v, %d, %d, %v, %d): got %d", g, m, period, node, f, at, e)
	}
	return h, is
}

// tight are all schedules of slots of 16 and 17 ticks, of so many nodes.
func tight(nodes int) []api.Medl {
	var l []api.Medl
	for slot := int64(16); slot <= 17; slot++ {
		for lead := int64(1); lead < slot; lead++ {
			for window := int64(1); window <= lead && lead+window < slot-1; window++ {
				l = append(l, api.Medl{Nodes: nodes, Slot: slot, Lead: lead, Frame: 1, Window: window})
			}
		}
	}
	return l
}

// line is who may send at each picosecond from 0 on, and in which slot, when the last slot began so.
type line map[int64]uint64

func lineOf(g api.Guard, m api.Medl, period, last int64) line {
	l := line{}
	for n := int64(0); n*m.Slot*period <= last-g.At; n++ {
		middle := g.At + (n*m.Slot+m.Lead)*period
		for at := middle - m.Window*period; at <= middle+m.Window*period; at++ {
			l[at] = g.Slot + uint64(n)
		}
	}
	return l
}

// What is sent in time passes, picosecond by picosecond; nothing does in another node's slot, or between two; what does not leaves all as it was.
func TestWhatPassesPicosecondByPicosecond(t *testing.T) {
	for _, nodes := range []int{2, 3} {
		for _, m := range tight(nodes) {
			for _, period := range []int64{1, 3} {
				g := known(7, m.Slot*period/2)
				last := int64(nodes+2) * m.Slot * period
				open := lineOf(g, m, period, last)
				for at := range last {
					for node := range nodes {
						slot, some := open[at]
						h, is := pass(t, g, m, period, node, api.Frame{}, at)
						want, mine := g, some && slot%uint64(nodes) == uint64(node)
						if mine {
							want = known(slot, at-m.Lead*period)
						}
						if is != mine || h != want {
							t.Errorf("%v, %d, node %d at %d: got %v, %v, not %v, %v", m, period, node, at, h, is, want, mine)
						}
					}
				}
			}
		}
	}
}

// When it lets a node send, that passes, and it alone; just ahead of it, and behind, nothing does.
func TestWhatIsSentInTimePasses(t *testing.T) {
	for l := drawn.Numbers(5*3000, 7); len(l) > 0; l = l[5:] {
		m, period := drawnMedl(l[0], l[1]), drawnPeriod(l[2])
		g := known(l[3]%(maxSlots-20), int64(l[4]))
		for node := range m.Nodes {
			from, to, e := Opens(g, m, period, node)
			if e != api.OK || from > to {
				t.Fatalf("%v, %v, %d: node %d: got %d, %d, %d", g, m, period, node, from, to, e)
			}
			for _, at := range []int64{from, from + 1, from + (to-from)/2, to - 1, to} {
				h, is := pass(t, g, m, period, node, api.Frame{}, at)
				if !is || h.At != at-m.Lead*period || h.Slot <= g.Slot || h.Slot > g.Slot+uint64(m.Nodes) || h.Slot%uint64(m.Nodes) != uint64(node) {
					t.Errorf("%v, %v, %d: node %d at %d: got %v, %v", g, m, period, node, at, h, is)
				}
				for other := range m.Nodes {
					if h, is := pass(t, g, m, period, other, cold(other, uint64(other)), at); other != node && (is || h != g) {
						t.Errorf("%v, %v, %d: node %d at %d: got %v, %v", g, m, period, other, at, h, is)
					}
				}
			}
			for _, at := range []int64{from - 1, to + 1} {
				for other := range m.Nodes {
					if h, is := pass(t, g, m, period, other, cold(other, uint64(other)), at); is || h != g {
						t.Errorf("%v, %v, %d: node %d at %d: got %v, %v", g, m, period, other, at, h, is)
					}
				}
			}
		}
	}
}

// Nodes send on, each as early or late as may be since the last one; some are silent, and strangers send between: who sends in time is let through, slot by slot, and nobody else.
func TestSendingOn(t *testing.T) {
	for l := drawn.Numbers(4*200, 9); len(l) > 0; l = l[4:] {
		m, period := drawnMedl(l[0], l[1]), drawnPeriod(l[2])
		first := int(l[3] % uint64(m.Nodes))
		g, is := pass(t, api.Guard{On: true}, m, period, first, cold(first, uint64(first+m.Nodes)), 1000000)
		if !is {
			t.Fatalf("%v: the first one is held back", m)
		}
		slot := g.Slot
		for _, n := range drawn.Numbers(200, l[3]) {
			silent := n % 3 * (n >> 4 % 2)
			slot += 1 + silent
			node := int(slot % uint64(m.Nodes))
			middle := g.At + (int64(slot-g.Slot)*m.Slot+m.Lead)*period
			strangers(t, g, m, period, node, middle)
			off := (int64(n>>8%3) - 1) * m.Window * period
			h, is := pass(t, g, m, period, node, api.Frame{}, middle+off)
			if !is || h != known(slot, middle+off-m.Lead*period) {
				t.Fatalf("%v, %d: from %v on, node %d at %d: got %v, %v", m, period, g, node, middle+off, h, is)
			}
			g = h
		}
	}
}

// strangers send as in a node's slot, and the node itself out of its window: nothing passes.
func strangers(t *testing.T, g api.Guard, m api.Medl, period int64, node int, middle int64) {
	t.Helper()
	window := m.Window * period
	for other := range m.Nodes {
		for _, off := range []int64{-window - 1, -window, 0, window, window + 1} {
			if other == node && -window <= off && off <= window {
				continue
			}
			if h, is := pass(t, g, m, period, other, cold(other, uint64(other)), middle+off); is || h != g {
				t.Errorf("%v, %d: from %v on, node %d at %d: got %v, %v", m, period, g, other, middle+off, h, is)
			}
		}
	}
}

// A guardian that is left alone with strangers learns no time from them, and one that is not on none from anybody.
func TestNoTimeIsLearntFromStrangers(t *testing.T) {
	g, off := api.Guard{On: true}, api.Guard{}
	for i, n := range drawn.Numbers(5000, 11) {
		node, slot := int(n%4), n>>4%(1<<33)
		f := api.Frame{Kind: 1 + int(n>>40%2), From: int(n >> 42 % 4), Slot: slot}
		at := int64(i) * 777
		if h, is := pass(t, off, four, 10, node, f, at); !is || h != off {
			t.Errorf("%d: got %v, %v", i, h, is)
		}
		h, is := pass(t, g, four, 10, node, f, at)
		own := f.Kind == 2 && f.From == node && slot%4 == uint64(node) && slot <= maxSlots
		if is != own || !own && h != g || own && h != known(slot, at-200) {
			t.Errorf("%d: %v of %d: got %v, %v", i, f, node, h, is)
		}
	}
}

// What was let through, and what is known behind it, is the same whether or not others were held back between.
func TestWhatDidNotPassPlaysNoPart(t *testing.T) {
	type send struct {
		node int
		f    api.Frame
		t    int64
	}
	for row := range uint64(50) {
		var all []send
		for i, n := range drawn.Numbers(400, row) {
			node := int(n % 4)
			all = append(all, send{node, cold(node, n>>2%8), int64(i)*250 + int64(n>>6%100)})
		}
		g := api.Guard{On: true}
		var through []send
		for _, x := range all {
			h, is := pass(t, g, four, 10, x.node, x.f, x.t)
			if g = h; is {
				through = append(through, x)
			}
		}
		if len(through) < 2 || len(through) == len(all) {
			t.Errorf("row %d: %d of %d passed", row, len(through), len(all))
		}
		alone := api.Guard{On: true}
		for _, x := range through {
			h, is := pass(t, alone, four, 10, x.node, x.f, x.t)
			if alone = h; !is {
				t.Errorf("row %d: %v is held back", row, x)
			}
		}
		if alone != g {
			t.Errorf("row %d: got %v, not %v", row, alone, g)
		}
	}
}
