package sample

import (
	"pallet/api"
	"pallet/drawn"
)

// The document's numbers of campaigns, written out.
const (
	maxNodes   = 16
	maxPeriod  = 1000000000
	maxSlot    = 1 << 20
	maxDrift   = 1000000
	maxDelay   = 1 << 40
	maxHorizon = 1 << 50
	maxRepeat  = 1000
)

// writer draws the statements of a campaign: of so many nodes, and, from here on, with so many injections at the most.
type writer struct {
	row   []uint64
	nodes int64
	left  int
}

// draw is the next number, below n.
func (w *writer) draw(n int64) int64 {
	x := w.row[0]
	w.row = w.row[1:]
	return int64(x % uint64(n))
}

// upTo is a number from 0 to n, of any size; now and then it is n.
func (w *writer) upTo(n int64) int64 {
	if w.draw(16) == 0 {
		return n
	}
	return w.draw(n+1) >> w.draw(51)
}

// Said is a statement; times are told by a sign for each number: t is a time, n is none.
func Said(word, kinds string, nums ...int64) api.Stmt {
	x := api.Stmt{Word: word}
	for i, n := range nums {
		x.Nums = append(x.Nums, api.Num{N: n, Time: kinds[i] == 't'})
	}
	return x
}

// Campaign are statements that are a campaign; from tells which ones they are.
func Campaign(from uint64) []api.Stmt {
	w := writer{row: drawn.Numbers(4000, from), left: 100}
	w.nodes = 2 + w.draw(maxNodes-1)
	l := append(w.world(), w.injections(int(w.draw(12)), 1)...)
	for i := range l {
		j := int(w.draw(int64(i + 1)))
		l[i], l[j] = l[j], l[i]
	}
	return l
}

// world is what tells of the world.
func (w *writer) world() []api.Stmt {
	slot := 16 + w.upTo(maxSlot-16)
	lead := 1 + w.draw(slot/2)
	window := 1 + w.draw(min(lead, slot/4))
	frame := 1 + w.draw(slot-lead-window-1)
	l := []api.Stmt{
		Said("nodes", "n", w.nodes),
		Said("tick", "t", 1+w.upTo(maxPeriod-1)),
		Said("slot", "nnnn", slot, lead, frame, window),
		Said("horizon", "t", w.upTo(maxHorizon)),
	}
	some := 1 + w.draw(5)
	for node := range w.nodes {
		if w.draw(some) == 0 {
			l = append(l, Said("drift", "nn", node, w.upTo(2*maxDrift)-maxDrift))
		}
		if w.draw(some) == 0 {
			l = append(l, Said("power", "nt", node, w.upTo(maxHorizon)))
		}
		for to := range w.nodes {
			if to != node && w.draw(some) == 0 {
				l = append(l, Said("delay", "nnt", node, to, w.upTo(maxDelay)))
			}
		}
	}
	if w.draw(3) > 0 {
		l = append(l, Said("guard", "n", w.draw(2)))
	}
	return l
}

// injections are so many statements of injections, and those in their blocks, so deep.
func (w *writer) injections(many, deep int) []api.Stmt {
	var l []api.Stmt
	for range min(many, w.left) {
		w.left--
		node, at, long := w.draw(w.nodes), w.upTo(maxHorizon), w.upTo(maxHorizon)
		switch kind := w.draw(8); {
		case kind == 0:
			l = append(l, Said("silence", "ntt", node, at, long))
		case kind == 1:
			l = append(l, Said("corrupt", "ntt", node, at, long))
		case kind == 2:
			l = append(l, Said("cut", "ntt", node%2, at, long))
		case kind == 3:
			l = append(l, Said("babble", "nt", node, at))
		case kind == 4 || deep == maxDepth:
			l = append(l, Said("crash", "nt", node, at))
		default:
			x := Said("repeat", "nt", 1+w.upTo(maxRepeat-1), at)
			x.Block, x.Body = true, w.blockOf(deep)
			l = append(l, x)
		}
	}
	return l
}

// blockOf are the statements in the block of one that is so deep; an empty block is as deep as one statement.
func (w *writer) blockOf(deep int) []api.Stmt {
	return w.injections(int(w.draw(4)), deep+1)
}
