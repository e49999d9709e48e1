package node

import (
	"math"
	"slices"
	"testing"

	"pallet/api"
	"pallet/drawn"
)

// four is a plain schedule, ten a clock of ten picoseconds a tick.
var (
	four = api.Medl{Nodes: 4, Slot: 100, Lead: 20, Frame: 30, Window: 10}
	ten  = api.Osc{Period: 10}
)

// about are the numbers on, below and above each of l.
func about(l ...int64) []int64 {
	var all []int64
	for _, n := range l {
		all = append(all, n)
		if n > math.MinInt64 {
			all = append(all, n-1)
		}
		if n < math.MaxInt64 {
			all = append(all, n+1)
		}
	}
	slices.Sort(all)
	return slices.Compact(all)
}

// good are schedules that may be: the tightest ones, and some with room.
func good() []api.Medl {
	l := []api.Medl{four}
	for _, n := range []int{2, 3, 4, 15, 16} {
		for _, s := range []int64{16, 17, 100, maxSlot} {
			l = append(l,
				api.Medl{Nodes: n, Slot: s, Lead: 1, Frame: 1, Window: 1},
				api.Medl{Nodes: n, Slot: s, Lead: 5, Frame: 3, Window: 4},
				api.Medl{Nodes: n, Slot: s, Lead: s/2 - 1, Frame: 1, Window: s/2 - 1})
		}
	}
	return l
}

// bad are schedules that may not be, each but just.
func bad() []api.Medl {
	return []api.Medl{
		{},
		{Nodes: 1, Slot: 100, Lead: 20, Frame: 30, Window: 10},
		{Nodes: 17, Slot: 100, Lead: 20, Frame: 30, Window: 10},
		{Nodes: -4, Slot: 100, Lead: 20, Frame: 30, Window: 10},
		{Nodes: math.MaxInt, Slot: 100, Lead: 20, Frame: 30, Window: 10},
		{Nodes: 4, Slot: 15, Lead: 2, Frame: 3, Window: 1},
		{Nodes: 4, Slot: 1048577, Lead: 20, Frame: 30, Window: 10},
		{Nodes: 4, Slot: 60, Lead: 20, Frame: 30, Window: 10},
		{Nodes: 4, Slot: 100, Lead: 9, Frame: 30, Window: 10},
		{Nodes: 4, Slot: 100, Lead: 0, Frame: 30, Window: 0},
		{Nodes: 4, Slot: 100, Lead: 20, Frame: 0, Window: 10},
		{Nodes: 4, Slot: 100, Lead: 20, Frame: 30, Window: 0},
		{Nodes: 4, Slot: 100, Lead: 20, Frame: 30, Window: math.MinInt64},
		{Nodes: 4, Slot: math.MaxInt64, Lead: math.MaxInt64, Frame: math.MaxInt64, Window: math.MaxInt64},
	}
}

// clocks are of all edges, those that may not be among them.
func clocks() []api.Osc {
	var l []api.Osc
	for _, period := range about(1, 10, maxPeriod) {
		for _, drift := range about(-maxDrift, 0, maxDrift) {
			for _, rem := range about(0, billion-1) {
				l = append(l, api.Osc{Period: period, Drift: drift, Rem: rem})
			}
		}
	}
	return append(l, api.Osc{}, api.Osc{Period: math.MinInt64}, api.Osc{Period: math.MaxInt64},
		api.Osc{Period: 10, Drift: math.MinInt64}, api.Osc{Period: 10, Rem: math.MaxInt64})
}

// changed is a node, in new memory, with something else.
func changed(n api.Node, f func(n *api.Node)) api.Node {
	n.Devs = slices.Clone(n.Devs)
	f(&n)
	return n
}

// works is a plain node at work: node 1 of four, in slot 2.
func works() api.Node {
	return api.Node{Id: 1, Phase: active, Slot: 2, Start: 11000, Osc: ten, Corr: 3, Members: 7,
		T: api.Tally{Good: 2, Bad: 1}, Devs: []int64{0, -4, 10}, Sent: true, Verdict: correct}
}

// others are nodes that are like one but for one part, those that may not be among them; m is for how far off their edges are.
func others(m api.Medl, n api.Node) []api.Node {
	var l []api.Node
	add := func(f func(n *api.Node)) { l = append(l, changed(n, f)) }
	for _, x := range about(0, int64(m.Nodes)-1, math.MaxInt64, math.MinInt64) {
		add(func(n *api.Node) { n.Id = int(x) })
	}
	for _, x := range append(about(off, frozen), 1<<32, math.MaxInt64, math.MinInt64) {
		add(func(n *api.Node) { n.Phase = int(x) })
	}
	for _, x := range []uint64{0, 1, 2, maxSlots - 1, maxSlots, maxSlots + 1, 1 << 33, 1 << 63, math.MaxUint64} {
		add(func(n *api.Node) { n.Slot = x })
	}
	for _, x := range about(0, 11000, maxTime, math.MaxInt64, math.MinInt64) {
		add(func(n *api.Node) { n.Start = x })
	}
	for _, x := range clocks() {
		add(func(n *api.Node) { n.Osc = x })
	}
	for _, x := range about(-m.Window, 0, m.Window, math.MaxInt64, math.MinInt64) {
		add(func(n *api.Node) { n.Corr = x })
		add(func(n *api.Node) { n.Devs = []int64{x} })
		add(func(n *api.Node) { n.Devs = []int64{0, x} })
		add(func(n *api.Node) { n.Devs = append(make([]int64, m.Nodes-1), x) })
	}
	for x := -1; x <= 17; x++ {
		add(func(n *api.Node) { n.Devs = make([]int64, max(m.Nodes-8+x, 0)) })
		add(func(n *api.Node) { n.Members = 1 << max(x, 0) })
	}
	add(func(n *api.Node) { n.Devs = make([]int64, 70) })
	add(func(n *api.Node) { n.Devs = []int64{} })
	add(func(n *api.Node) { n.Members = 65535 })
	for _, x := range about(0, 1, topCount, math.MaxInt64, math.MinInt64) {
		add(func(n *api.Node) { n.T.Good = int(x) })
		add(func(n *api.Node) { n.T.Bad = int(x) })
	}
	add(func(n *api.Node) { n.Sent = !n.Sent })
	for _, x := range append(about(null, wrong), 2, 1<<32, math.MaxInt64, math.MinInt64) {
		add(func(n *api.Node) { n.Verdict = int(x) })
	}
	return l
}

// row are drawn numbers, one by one.
type row struct {
	l    []uint64
	from uint64
}

func (r *row) next() uint64 {
	if len(r.l) == 0 {
		r.l, r.from = drawn.Numbers(1000, r.from), r.from+1000000
	}
	n := r.l[0]
	r.l = r.l[1:]
	return n >> 5
}

// below is one of the numbers from 0 on, below n.
func (r *row) below(n int64) int64 { return int64(r.next() % uint64(n)) }

// within is one of the numbers from least to most.
func (r *row) within(least, most int64) int64 { return least + r.below(most-least+1) }

func (r *row) one(l ...int64) int64 { return l[r.below(int64(len(l)))] }

func (r *row) schedule() api.Medl {
	m := api.Medl{Nodes: int(r.within(2, 16)), Slot: r.one(16, 17, 100, 1000, r.within(16, maxSlot), maxSlot)}
	// Of what is left each one leaves one tick, at least, for each of those behind it, and one more.
	m.Window = r.within(1, (m.Slot-2)/2)
	m.Lead = r.within(m.Window, m.Slot-m.Window-2)
	m.Frame = r.within(1, m.Slot-m.Lead-m.Window-1)
	if r.below(2) == 0 {
		m.Window = r.within(1, min(m.Window, 4))
	}
	return m
}

func (r *row) clock() api.Osc {
	return api.Osc{Period: r.one(1, 2, 10, 1000, r.within(1, maxPeriod), maxPeriod),
		Drift: r.one(-maxDrift, 0, maxDrift, r.within(-maxDrift, maxDrift)), Rem: r.one(0, billion-1, r.below(billion))}
}

// node is a node that may be, at some phase.
func (r *row) node(m api.Medl, phase int) api.Node {
	n := api.Node{Id: int(r.below(int64(m.Nodes))), Phase: phase, Osc: r.clock()}
	if phase == off {
		return n
	}
	n.Slot = uint64(r.one(r.below(64), r.below(maxSlots), maxSlots-r.below(20)))
	n.Start = r.one(r.below(100000), r.below(maxTime), r.below(maxTime), maxTime-r.below(1<<r.within(0, 50)))
	n.Corr = r.one(0, -m.Window, m.Window, r.within(-m.Window, m.Window))
	n.Members = uint16(r.next())
	if r.below(2) == 0 {
		n.Members &= uint16(1<<m.Nodes - 1)
	}
	if r.below(6) == 0 {
		n.Members = 1 << n.Id
	}
	n.T = api.Tally{Good: int(r.one(1, r.below(4), topCount-r.below(2))), Bad: int(r.one(0, r.below(4), topCount-r.below(2)))}
	for range r.below(int64(m.Nodes) + 1) {
		n.Devs = append(n.Devs, r.one(-m.Window, m.Window, r.within(-m.Window, m.Window)))
	}
	n.Sent, n.Verdict = r.below(2) == 0, int(r.one(null, null, r.below(4)))
	return n
}

// P13.1

func TestNewByHand(t *testing.T) {
	o := api.Osc{Period: 7, Drift: -5, Rem: 3}
	n, e := New(four, 3, o)
	if e != api.OK || n.Id != 3 || n.Phase != 0 || n.Osc != o || n.Slot != 0 || n.Start != 0 || n.Corr != 0 ||
		n.Members != 0 || n.T != (api.Tally{}) || len(n.Devs) != 0 || n.Sent || n.Verdict != 0 {
		t.Errorf("got %v, %d", n, e)
	}
}

func TestNewAtTheEdges(t *testing.T) {
	compare := func(m api.Medl, id int, o api.Osc) {
		t.Helper()
		want, wantE := api.Node{Id: id, Osc: o}, api.OK
		if !scheduleMayBe(m) || !clockMayBe(o) || id < 0 || id >= m.Nodes {
			want, wantE = api.Node{}, api.ErrArg
		}
		if n, e := New(m, id, o); !equal(n, want) || e != wantE {
			t.Errorf("New(%v, %d, %v): got %v, %d", m, id, o, n, e)
		}
	}
	for _, m := range append(good(), bad()...) {
		for _, id := range append(about(0, 2, 16, int64(m.Nodes)), math.MaxInt64, math.MinInt64) {
			compare(m, int(id), ten)
		}
	}
	for _, o := range clocks() {
		compare(four, 1, o)
	}
}

// All that a node has is asked for, each one alone, in all phases.
func TestCheckAtTheEdges(t *testing.T) {
	may, many := 0, 0
	for _, m := range good() {
		l := []api.Node{{Id: 1, Osc: ten}}
		for phase := listen; phase <= frozen; phase++ {
			l = append(l, changed(works(), func(n *api.Node) { n.Phase, n.Corr, n.Devs = phase, 1, []int64{1} }))
		}
		for _, n := range l {
			for _, n := range others(m, n) {
				want := api.ErrArg
				if many++; mayBe(m, n) {
					want, may = api.OK, may+1
				}
				if e := Check(m, n); e != want {
					t.Errorf("Check(%v, %v): got %d", m, n, e)
				}
			}
		}
	}
	if may < many/4 || may > 3*many/4 {
		t.Errorf("%d of %d may be", may, many)
	}
}

func TestCheckByHand(t *testing.T) {
	n := works()
	if e := Check(four, n); e != api.OK {
		t.Errorf("got %d", e)
	}
	for i, n := range []api.Node{
		changed(n, func(n *api.Node) { n.Id = 4 }),
		changed(n, func(n *api.Node) { n.Phase = 4 }),
		changed(n, func(n *api.Node) { n.Phase = -1 }),
		changed(n, func(n *api.Node) { n.Phase = off }),
		changed(n, func(n *api.Node) { n.Slot = 1<<32 + 1 }),
		changed(n, func(n *api.Node) { n.Start = -1 }),
		changed(n, func(n *api.Node) { n.Start = 1<<60 + 1 }),
		changed(n, func(n *api.Node) { n.Osc.Period = 0 }),
		changed(n, func(n *api.Node) { n.Corr = 11 }),
		changed(n, func(n *api.Node) { n.Corr = -11 }),
		changed(n, func(n *api.Node) { n.Devs[1] = 11 }),
		changed(n, func(n *api.Node) { n.Devs[2] = -11 }),
		changed(n, func(n *api.Node) { n.Devs = make([]int64, 5) }),
		changed(n, func(n *api.Node) { n.T.Good = -1 }),
		changed(n, func(n *api.Node) { n.T.Bad = 1<<30 + 1 }),
		changed(n, func(n *api.Node) { n.Verdict = 4 }),
		{Id: 1, Osc: ten, Slot: 1},
		{Id: 1, Osc: ten, Start: 1},
		{Id: 1, Osc: ten, Corr: 1},
		{Id: 1, Osc: ten, Members: 2},
		{Id: 1, Osc: ten, T: api.Tally{Good: 1}},
		{Id: 1, Osc: ten, T: api.Tally{Bad: 1}},
		{Id: 1, Osc: ten, Devs: []int64{0}},
		{Id: 1, Osc: ten, Sent: true},
		{Id: 1, Osc: ten, Verdict: 1},
		{Id: 1},
		{Id: 4, Osc: ten},
		{Id: -1, Osc: ten},
	} {
		if e := Check(four, n); e != api.ErrArg {
			t.Errorf("%d: %v: got %d", i, n, e)
		}
	}
	for i, n := range []api.Node{
		{Id: 1, Osc: ten},
		{Id: 0, Osc: ten, Devs: []int64{}},
		{Id: 3, Osc: api.Osc{Period: 1000000000, Drift: -1000000, Rem: 999999999}},
		{Id: 3, Phase: frozen, Osc: ten},
		{Id: 3, Phase: listen, Osc: ten},
		{Id: 3, Phase: active, Osc: ten, Slot: 1 << 32, Start: 1 << 60, Corr: -10, Members: 65535,
			T: api.Tally{Good: 1 << 30, Bad: 1 << 30}, Devs: []int64{10, -10, 10, -10}, Sent: true, Verdict: 3},
	} {
		if e := Check(four, n); e != api.OK {
			t.Errorf("%d: %v: got %d", i, n, e)
		}
	}
}

func TestCheckOfASchedule(t *testing.T) {
	for _, m := range bad() {
		for _, n := range []api.Node{{}, {Osc: ten}, {Id: 1, Osc: ten}, {Phase: active, Osc: ten}} {
			if e := Check(m, n); e != api.ErrArg {
				t.Errorf("Check(%v, %v): got %d", m, n, e)
			}
		}
	}
}

func TestCheckOfDrawn(t *testing.T) {
	r := &row{from: 1}
	for range 20000 {
		m := r.schedule()
		n := r.node(m, int(r.below(4)))
		if e := Check(m, n); e != api.OK || !mayBe(m, n) {
			t.Errorf("Check(%v, %v): got %d", m, n, e)
		}
		// One schedule's node may be another one's, or not.
		m = r.schedule()
		if e := Check(m, n); (e == api.OK) != mayBe(m, n) || e != api.OK && e != api.ErrArg {
			t.Errorf("Check(%v, %v): got %d", m, n, e)
		}
	}
}

// Two nodes are the same if no part of them is another one, whether or not they may be.
func TestSame(t *testing.T) {
	l := append(others(four, works()), others(four, api.Node{})...)
	for i, a := range l {
		if !Same(a, changed(a, func(*api.Node) {})) {
			t.Errorf("%v is not the same as itself", a)
		}
		for _, b := range []api.Node{works(), {}, l[(i+1)%len(l)], l[i*7%len(l)]} {
			if got := Same(a, b); got != equal(a, b) || got != Same(b, a) {
				t.Errorf("Same(%v, %v): got %v", a, b, got)
			}
		}
	}
}

func TestSameByHand(t *testing.T) {
	for i, f := range []func(n *api.Node){
		func(n *api.Node) { n.Id++ },
		func(n *api.Node) { n.Phase++ },
		func(n *api.Node) { n.Slot++ },
		func(n *api.Node) { n.Start++ },
		func(n *api.Node) { n.Osc.Period++ },
		func(n *api.Node) { n.Osc.Drift++ },
		func(n *api.Node) { n.Osc.Rem++ },
		func(n *api.Node) { n.Corr++ },
		func(n *api.Node) { n.Members++ },
		func(n *api.Node) { n.T.Good++ },
		func(n *api.Node) { n.T.Bad++ },
		func(n *api.Node) { n.Devs[0]++ },
		func(n *api.Node) { n.Devs[2]++ },
		func(n *api.Node) { n.Devs = n.Devs[:2] },
		func(n *api.Node) { n.Devs = append(n.Devs, 0) },
		func(n *api.Node) { n.Devs[0], n.Devs[1] = n.Devs[1], n.Devs[0] },
		func(n *api.Node) { n.Devs = nil },
		func(n *api.Node) { n.Sent = !n.Sent },
		func(n *api.Node) { n.Verdict++ },
	} {
		if a, b := works(), changed(works(), f); Same(a, b) || Same(b, a) {
			t.Errorf("%d: %v and %v are told to be the same", i, a, b)
		}
	}
	// A list without elements is nil, or empty.
	a, b := changed(works(), func(n *api.Node) { n.Devs = nil }), changed(works(), func(n *api.Node) { n.Devs = []int64{} })
	if !Same(a, b) || !Same(b, a) || !Same(works(), works()) || !Same(api.Node{}, api.Node{}) {
		t.Error("the same nodes are told not to be")
	}
}
