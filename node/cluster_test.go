package node

import (
	"testing"

	"pallet/api"
)

// Whole clusters, in which each frame is heard by all others a little later: what nodes do together.

// heard is a frame that a node is to hear.
type heard struct {
	to           int
	began, ended int64
	b            []byte
}

// cluster are nodes that hear each other.
type cluster struct {
	t      *testing.T
	m      api.Medl
	tick   int64
	delay  int64
	plays  []*play
	power  []int64
	air    []heard
	silent func(node int, slot uint64) bool
	// starts are when each node's slots began.
	starts []map[uint64]int64
}

func newCluster(t *testing.T, m api.Medl, tick, delay int64, drift, power []int64) *cluster {
	t.Helper()
	c := &cluster{t: t, m: m, tick: tick, delay: delay, power: power, silent: func(int, uint64) bool { return false }}
	for id := range m.Nodes {
		n, e := New(m, id, api.Osc{Period: tick, Drift: drift[id]})
		if e != api.OK {
			t.Fatalf("New: got %d", e)
		}
		c.plays = append(c.plays, &play{t: t, m: m, n: n, at: power[id]})
		c.starts = append(c.starts, map[uint64]int64{})
	}
	return c
}

// run lets come what is to come, by the order of time, up to an end.
func (c *cluster) run(until int64) {
	c.t.Helper()
	for {
		who, air := 0, -1
		for id, p := range c.plays {
			if p.at < c.plays[who].at {
				who = id
			}
		}
		now := c.plays[who].at
		for i, x := range c.air {
			if x.ended < now {
				now, air = x.ended, i
			}
		}
		switch {
		case now > until:
			return
		case air < 0:
			c.step(who, now)
		default:
			x := c.air[air]
			c.air = append(c.air[:air:air], c.air[air+1:]...)
			c.plays[x.to].hear(now, x.began, x.b, false)
			c.note(x.to)
		}
	}
}

// step lets a node's timer come, or its power.
func (c *cluster) step(who int, now int64) {
	c.t.Helper()
	p := c.plays[who]
	before := len(p.sent())
	if p.n.Phase == off {
		p.wake(now)
	} else {
		p.at = maxTime
		p.timer(now)
	}
	c.note(who)
	for _, f := range p.sent()[before:] {
		if c.silent(who, f.Slot) {
			continue
		}
		for to := range c.plays {
			began := now + c.delay*int64(1+(who+to)%2)
			if to != who {
				c.air = append(c.air, heard{to, began, began + c.m.Frame*c.tick, text(c.t, f)})
			}
		}
	}
}

// note notes when a node's slot began.
func (c *cluster) note(who int) {
	if n := c.plays[who].n; n.Phase == active {
		c.starts[who][n.Slot] = n.Start
	}
}

// forget leaves out what nodes told up to now.
func (c *cluster) forget() {
	for id, p := range c.plays {
		p.acts, c.starts[id] = nil, map[uint64]int64{}
	}
}

// inTime compares when nodes' slots began: no two by more than the window apart.
func (c *cluster) inTime() {
	c.t.Helper()
	window := c.m.Window * c.tick
	for a, starts := range c.starts {
		for b := range a {
			for slot, start := range starts {
				other, is := c.starts[b][slot]
				if far := start - other; is && (far < -window || far > window) {
					c.t.Errorf("slot %d: node %d is %d behind node %d", slot, a, far, b)
				}
			}
		}
	}
}

// calm are clusters of so many nodes, with clocks that drift, that are woken at several times.
func calm(t *testing.T, nodes int, way int64) *cluster {
	t.Helper()
	m := api.Medl{Nodes: nodes, Slot: 1000, Lead: 200, Frame: 300, Window: 60}
	drift, power := make([]int64, nodes), make([]int64, nodes)
	for id := range nodes {
		drift[id] = (int64(id)*way%5 - 2) * 100000
		power[id] = int64(id) * way % 7 * 333333
	}
	return newCluster(t, m, 1000, 4000, drift, power)
}

const slotLength = 1000000

func TestACalmClusterKeepsTime(t *testing.T) {
	for _, nodes := range []int{2, 3, 4, 5, 7, 16} {
		for way := range int64(7) {
			c := calm(t, nodes, way)
			round := int64(nodes) * slotLength
			c.run(8 * round)
			all := uint16(1<<nodes - 1)
			for id, p := range c.plays {
				if p.n.Phase != active || p.n.Members != all {
					t.Errorf("%d nodes, way %d: node %d is %v", nodes, way, id, p.n)
				}
				if cold, join := len(p.told(coldNote)), len(p.told(joinNote)); cold+join != 1 {
					t.Errorf("%d nodes, way %d: node %d started %d times, and joined %d times", nodes, way, id, cold, join)
				}
			}
			c.forget()
			c.run(28 * round)
			for id, p := range c.plays {
				for _, kind := range []int{nullNote, wrongNote, noAckNote, oddNote, freezeNote} {
					if l := p.told(kind); len(l) > 0 {
						t.Errorf("%d nodes, way %d: node %d told %d of %v", nodes, way, id, kind, l)
					}
				}
				if many := len(p.sent()); many < 19 || many > 21 || p.n.Members != all {
					t.Errorf("%d nodes, way %d: node %d sent %d times, and is %v", nodes, way, id, many, p.n)
				}
			}
			c.inTime()
		}
	}
}

// Who is silent for some rounds is missed, and nobody else, and nobody freezes; who is heard again is there again.
func TestWhoIsSilentIsMissedAlone(t *testing.T) {
	for nodes := 3; nodes <= 6; nodes++ {
		for quiet := range nodes {
			c := calm(t, nodes, 3)
			round := int64(nodes) * slotLength
			c.run(8 * round)
			c.forget()
			from := c.plays[quiet].n.Slot
			c.silent = func(node int, slot uint64) bool {
				return node == quiet && slot >= from && slot < from+3*uint64(nodes)
			}
			c.run(20 * round)
			for id, p := range c.plays {
				missed, unheard := p.told(nullNote), p.told(noAckNote)
				if id == quiet && (len(missed) != 0 || len(unheard) == 0) || id != quiet && (len(missed) == 0 || len(unheard) != 0) {
					t.Errorf("%d nodes, %d silent: node %d missed %v, and was not heard by %v", nodes, quiet, id, missed, unheard)
				}
				for _, who := range missed {
					if who != int64(quiet) {
						t.Errorf("%d nodes, %d silent: node %d missed %v", nodes, quiet, id, missed)
					}
				}
				if p.n.Phase != active || int(p.n.Members) != 1<<nodes-1 {
					t.Errorf("%d nodes, %d silent: node %d is %v", nodes, quiet, id, p.n)
				}
			}
			c.inTime()
		}
	}
}

// Who halts is missed from then on; a node that is alone goes on.
func TestWhoHaltsIsMissed(t *testing.T) {
	for nodes := 2; nodes <= 5; nodes++ {
		for halted := range nodes {
			c := calm(t, nodes, 2)
			round := int64(nodes) * slotLength
			c.run(8 * round)
			c.forget()
			c.plays[halted].n.Phase, c.plays[halted].at = frozen, maxTime
			c.run(16 * round)
			for id, p := range c.plays {
				switch missed := p.told(nullNote); {
				case id == halted && len(p.acts) != 0:
					t.Errorf("%d nodes: node %d halted, and told %v", nodes, id, p.acts)
				case id != halted && (len(missed) != 1 || missed[0] != int64(halted) || int(p.n.Members) != 1<<nodes-1-1<<halted):
					t.Errorf("%d nodes, %d halted: node %d missed %v, and is %v", nodes, halted, id, missed, p.n)
				}
			}
			c.inTime()
		}
	}
}
