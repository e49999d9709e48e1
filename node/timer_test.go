package node

import (
	"math"
	"testing"

	"pallet/api"
)

// noTimes are no times from 0 on.
var noTimes = []int64{-1, -1 << 60, 1<<60 + 1, math.MaxInt64, math.MinInt64}

// steps are Wake and Timer, which are handed the same.
var steps = []func(*testing.T, api.Medl, api.Node, int64) told{wake, timer}

// P13.2

func TestWakeByHand(t *testing.T) {
	for id, at := range []int64{8007, 10007, 12007, 14007} {
		n := api.Node{Id: id, Osc: ten}
		expect(t, "wake", wake(t, four, n, 7), api.Node{Id: id, Phase: listen, Start: 7, Osc: ten}, notes(wakeNote, 0), timerAt(at))
	}
	// What is left of its clock counts, and is still left.
	slow := api.Osc{Period: 10, Drift: 1, Rem: 999999991}
	expect(t, "slow", wake(t, four, api.Node{Id: 1, Osc: slow}, 5), api.Node{Id: 1, Phase: listen, Start: 5, Osc: slow},
		notes(wakeNote, 0), timerAt(10006))
	// A list without elements is one of an off node, too.
	expect(t, "empty", wake(t, four, api.Node{Id: 1, Osc: ten, Devs: []int64{}}, 0), api.Node{Id: 1, Phase: listen, Osc: ten},
		notes(wakeNote, 0), timerAt(10000))
}

func TestWakeOfOneThatIsAwake(t *testing.T) {
	for phase := listen; phase <= frozen; phase++ {
		for _, now := range []int64{0, 5, 12000, 1 << 60} {
			n := changed(works(), func(n *api.Node) { n.Phase = phase })
			nothing(t, "wake", wake(t, four, n, now), n)
		}
	}
}

func TestWakeThatGoesOver(t *testing.T) {
	n := api.Node{Id: 1, Osc: ten}
	expect(t, "last", wake(t, four, n, 1<<60-10000), api.Node{Id: 1, Phase: listen, Start: 1<<60 - 10000, Osc: ten},
		notes(wakeNote, 0), timerAt(1<<60))
	fails(t, "over", wake(t, four, n, 1<<60-9999), n, api.ErrOver)
	fails(t, "over", wake(t, four, n, 1<<60), n, api.ErrOver)
}

// P13.3

func TestTimerOfOneThatSaysNothing(t *testing.T) {
	for _, now := range []int64{0, 5, 12000, 1 << 60} {
		n := api.Node{Id: 1, Osc: ten}
		nothing(t, "off", timer(t, four, n, now), n)
		n = changed(works(), func(n *api.Node) { n.Phase = frozen })
		nothing(t, "frozen", timer(t, four, n, now), n)
		n = changed(n, func(n *api.Node) { n.Slot, n.Start = 1<<32, 1<<60 })
		nothing(t, "frozen, at the end", timer(t, four, n, now), n)
	}
}

func TestTimerStarts(t *testing.T) {
	for id := range 4 {
		alone := api.Node{Id: id, Phase: active, Slot: uint64(id), Start: 70, Osc: ten, Members: 1 << id, T: api.Tally{Good: 1}}
		n := api.Node{Id: id, Phase: listen, Osc: ten}
		expect(t, "start", timer(t, four, n, 70), alone, notes(coldNote, 0), timerAt(270))
		// Whatever it had is gone.
		n = changed(works(), func(n *api.Node) { n.Id, n.Phase, n.Verdict = id, listen, wrong })
		expect(t, "start of one that had more", timer(t, four, n, 70), alone, notes(coldNote, 0), timerAt(270))
	}
	slow := api.Osc{Period: 10, Drift: 1, Rem: 999999800}
	expect(t, "slow", timer(t, four, api.Node{Id: 1, Phase: listen, Osc: slow}, 0),
		api.Node{Id: 1, Phase: active, Slot: 1, Osc: slow, Members: 2, T: api.Tally{Good: 1}}, notes(coldNote, 0), timerAt(201))
	n := api.Node{Id: 1, Phase: listen, Osc: ten}
	fails(t, "over", timer(t, four, n, 1<<60-199), n, api.ErrOver)
	if got := timer(t, four, n, 1<<60-200); got.e != api.OK || got.acts[1] != timerAt(1<<60) {
		t.Errorf("got %v", got)
	}
	// A tick may last less than a picosecond, which is still a time at the end of all.
	short := api.Osc{Period: 1, Drift: -1}
	if got := timer(t, api.Medl{Nodes: 2, Slot: 16, Lead: 1, Frame: 1, Window: 1}, api.Node{Id: 1, Phase: listen, Osc: short}, 1<<60); got.e != api.OK || got.acts[1] != timerAt(1<<60) {
		t.Errorf("got %v", got)
	}
}

// sending is a node of four in its own slot.
func sending(id int, slot uint64) api.Node {
	return api.Node{Id: id, Phase: active, Slot: slot, Start: 20000, Osc: ten, Corr: -3, Members: 1 << id, T: api.Tally{Good: 1}, Devs: []int64{4}}
}

func TestTimerSends(t *testing.T) {
	n := sending(1, 5)
	sent := changed(n, func(n *api.Node) { n.Sent = true })
	expect(t, "alone", timer(t, four, n, 0), sent,
		sends(api.Frame{Kind: 2, From: 1, Slot: 5, Members: 2}), notes(sendNote, 5), timerAt(20970))
	// A node is among its members then.
	n.Members = 0
	expect(t, "no members", timer(t, four, n, 0), sent,
		sends(api.Frame{Kind: 2, From: 1, Slot: 5, Members: 2}), notes(sendNote, 5), timerAt(20970))
	for _, x := range []struct{ before, members uint16 }{{4, 6}, {6, 6}, {9, 11}, {13, 15}, {15, 15}, {1, 3}, {16, 18}, {32768, 32770}, {65535, 65535}} {
		n.Members, sent.Members = x.before, x.members
		expect(t, "with others", timer(t, four, n, 77777), sent,
			sends(api.Frame{Kind: 1, From: 1, Slot: 5, Members: x.members}), notes(sendNote, 5), timerAt(20970))
	}
	// It sends whatever its verdict and its tally.
	n = changed(sending(0, 1<<32), func(n *api.Node) { n.Verdict, n.T, n.Corr = wrong, api.Tally{Bad: 5}, 10 })
	expect(t, "last slot", timer(t, four, n, 0), changed(n, func(n *api.Node) { n.Sent = true }),
		sends(api.Frame{Kind: 2, From: 0, Slot: 1 << 32, Members: 1}), notes(sendNote, 1<<32), timerAt(21100))
}

func TestTimerSendsInNoOtherSlot(t *testing.T) {
	for slot := range uint64(8) {
		n := sending(1, slot)
		got := timer(t, four, n, 20200)
		if sent := len(got.acts) > 0 && got.acts[0].Kind == api.SendA; sent != (slot%4 == 1) {
			t.Errorf("slot %d: got %v", slot, got)
		}
		// What is sent is sent once.
		n.Sent = true
		for _, act := range timer(t, four, n, 20200).acts {
			if act.Kind == api.SendA {
				t.Errorf("slot %d: sent again", slot)
			}
		}
	}
}

func TestTimerSendsOver(t *testing.T) {
	n := changed(sending(1, 5), func(n *api.Node) { n.Start = 1<<60 - 970 })
	if got := timer(t, four, n, 0); got.e != api.OK || got.acts[2] != timerAt(1<<60) {
		t.Errorf("got %v", got)
	}
	n.Start++
	fails(t, "over", timer(t, four, n, 0), n, api.ErrOver)
}

// listening is node 1 of four in another node's slot, of which it heard nothing.
func listening(slot uint64) api.Node {
	return api.Node{Id: 1, Phase: active, Slot: slot, Start: 20000, Osc: ten, Members: 7, T: api.Tally{Good: 3, Bad: 1}, Devs: []int64{0, 4, -9}}
}

func TestTimerEndsASlot(t *testing.T) {
	next := func(n api.Node, members uint16) api.Node {
		return changed(n, func(n *api.Node) {
			n.Slot, n.Start, n.Corr, n.Sent, n.Verdict, n.Members = n.Slot+1, n.Start+(100+n.Corr)*10, 0, false, null, members
		})
	}
	n := listening(6)
	expect(t, "not heard", timer(t, four, n, 0), next(n, 3), notes(nullNote, 2), timerAt(22000))
	n.Members = 3
	expect(t, "not there", timer(t, four, n, 0), next(n, 3), timerAt(22000))
	for _, x := range []struct {
		verdict         int
		before, members uint16
	}{{correct, 7, 7}, {correct, 3, 7}, {correct, 1, 5}, {noAck, 7, 5}, {noAck, 3, 5}, {wrong, 7, 3}, {wrong, 3, 3}} {
		n.Verdict, n.Members = x.verdict, x.before
		expect(t, "heard", timer(t, four, n, 0), next(n, x.members), timerAt(22000))
	}
	// The slot that ends is longer, or shorter, the next one is not.
	for _, corr := range []int64{-10, -1, 1, 10} {
		n.Corr = corr
		expect(t, "corrected", timer(t, four, n, 0), next(n, 3), timerAt(22000+corr*10))
	}
	n.Sent, n.Corr = true, 0
	expect(t, "sent", timer(t, four, n, 0), next(n, 3), timerAt(22000))
}

// What is left of a clock is carried on, in each slot that ends, and is counted for what is behind it.
func TestTimerKeepsWhatIsLeft(t *testing.T) {
	o := api.Osc{Period: 10, Drift: 300000, Rem: 900000000}
	n := api.Node{Id: 1, Phase: active, Slot: 6, Start: 20000, Osc: o, Members: 2, T: api.Tally{Good: 1}}
	// 100 ticks are 1000 picoseconds, and three tenths.
	after := api.Node{Id: 1, Phase: active, Slot: 7, Start: 21001, Osc: api.Osc{Period: 10, Drift: 300000, Rem: 200000000}, Members: 2, T: api.Tally{Good: 1}}
	expect(t, "carried", timer(t, four, n, 0), after, timerAt(22001))
	again := changed(after, func(n *api.Node) { n.Slot, n.Start, n.Osc.Rem = 8, 22001, 500000000 })
	expect(t, "again", timer(t, four, after, 0), again, notes(syncNote, 0), timerAt(23001))
	n.Osc.Rem, n.Slot = 700000000, 8
	own := changed(n, func(n *api.Node) { n.Slot, n.Start, n.Osc.Rem = 9, 21001, 0 })
	expect(t, "own", timer(t, four, n, 0), own, timerAt(21201))
	// The frame's timer takes nothing of it.
	sent := changed(own, func(n *api.Node) { n.Sent, n.Osc.Rem = true, 950000000 })
	n = changed(sent, func(n *api.Node) { n.Sent = false })
	expect(t, "send", timer(t, four, n, 0), sent, sends(api.Frame{Kind: 2, From: 1, Slot: 9, Members: 2}), notes(sendNote, 9), timerAt(22002))
}

func TestTimerEndsItsOwnSlot(t *testing.T) {
	n := changed(sending(1, 5), func(n *api.Node) { n.Sent, n.Members = true, 11 })
	after := api.Node{Id: 1, Phase: active, Slot: 6, Start: 20970, Osc: ten, Members: 11, T: api.Tally{Good: 1}, Devs: []int64{4, 0}}
	expect(t, "own", timer(t, four, n, 0), after, timerAt(21970))
	// It is a member, and has no note of itself, whatever the verdict.
	for verdict := null; verdict <= wrong; verdict++ {
		n.Verdict, n.Members = verdict, 9
		expect(t, "own", timer(t, four, n, 0), after, timerAt(21970))
	}
	n.Devs, after.Devs = []int64{1, 2, 3}, []int64{1, 2, 3, 0}
	expect(t, "room for one", timer(t, four, n, 0), after, timerAt(21970))
	n.Devs, after.Devs = []int64{1, 2, 3, 4}, []int64{1, 2, 3, 4}
	expect(t, "no room", timer(t, four, n, 0), after, timerAt(21970))
}

func TestTimerEndsARound(t *testing.T) {
	n := listening(7)
	after := changed(n, func(n *api.Node) { n.Slot, n.Start, n.Devs = 8, 21000, nil })
	for _, x := range []struct {
		devs []int64
		corr int64
	}{
		{nil, 0}, {[]int64{}, 0}, {[]int64{7}, 7}, {[]int64{-7}, -7}, {[]int64{0, 3}, 1}, {[]int64{0, -3}, -2}, {[]int64{10, 10}, 10},
		{[]int64{10, -10, 4}, 4}, {[]int64{0, 4, -9}, 0}, {[]int64{-10, 3, 10, 6}, 4}, {[]int64{-3, -10, -4, 10}, -4}, {[]int64{10, 10, 10, 10}, 10},
	} {
		n.Devs, after.Corr = x.devs, x.corr
		expect(t, "round", timer(t, four, n, 0), after, notes(syncNote, x.corr), timerAt(22000+x.corr*10))
	}
	// Its correction up to then is no more.
	n.Devs, n.Corr, after.Corr, after.Start = []int64{2}, 9, 2, 21090
	expect(t, "corrected anew", timer(t, four, n, 0), after, notes(syncNote, 2), timerAt(22110))
	n.Members, n.Devs, after.Members = 15, nil, 7
	after.Corr = 0
	expect(t, "two notes", timer(t, four, n, 0), after, notes(nullNote, 3), notes(syncNote, 0), timerAt(22090))
}

// The last node's own slot is the last one of a round, too: the 0 of its own is one of those of which the mean is made.
func TestTimerEndsARoundInItsOwnSlot(t *testing.T) {
	n := changed(sending(3, 7), func(n *api.Node) { n.Sent, n.Corr, n.Devs = true, 0, []int64{6, 4} })
	after := api.Node{Id: 3, Phase: active, Slot: 8, Start: 21000, Osc: ten, Corr: 4, Members: 8, T: api.Tally{Good: 1}}
	expect(t, "own", timer(t, four, n, 0), after, notes(syncNote, 4), timerAt(22040))
	n.Devs, after.Corr = []int64{6}, 3
	expect(t, "own", timer(t, four, n, 0), after, notes(syncNote, 3), timerAt(22030))
	n.Devs, after.Corr = []int64{6, 6, 6, 6}, 6
	expect(t, "no room", timer(t, four, n, 0), after, notes(syncNote, 6), timerAt(22060))
}

// Node 0's own slot is the first one of a round: a slot's correction is told, but does not move the frame in it.
func TestTimerEndsARoundAheadOfItsOwnSlot(t *testing.T) {
	n := changed(sending(0, 7), func(n *api.Node) { n.Corr, n.Devs, n.T = 0, []int64{6}, api.Tally{Good: 2, Bad: 1} })
	after := api.Node{Id: 0, Phase: active, Slot: 8, Start: 21000, Osc: ten, Corr: 6, Members: 1, T: api.Tally{Good: 1}}
	expect(t, "own", timer(t, four, n, 0), after, notes(syncNote, 6), timerAt(21200))
	n.T.Bad, n.Members = 2, 9
	after.T, after.Phase = n.T, frozen
	expect(t, "frozen", timer(t, four, n, 0), after, notes(nullNote, 3), notes(syncNote, 6), notes(freezeNote, 0))
}

func TestTimerFreezes(t *testing.T) {
	for _, x := range []struct {
		t      api.Tally
		freeze bool
	}{
		{api.Tally{}, false}, {api.Tally{Good: 1}, false}, {api.Tally{Bad: 1}, true}, {api.Tally{Good: 1, Bad: 1}, true},
		{api.Tally{Good: 2, Bad: 1}, false}, {api.Tally{Good: 2, Bad: 2}, true}, {api.Tally{Good: 2, Bad: 3}, true}, {api.Tally{Good: 4, Bad: 3}, false},
		{api.Tally{Good: 1 << 30, Bad: 1 << 30}, true}, {api.Tally{Good: 1 << 30, Bad: 1<<30 - 1}, false}, {api.Tally{Good: 1 << 30}, false},
	} {
		n := changed(listening(8), func(n *api.Node) { n.T, n.Corr, n.Verdict, n.Sent = x.t, 5, wrong, true })
		after := changed(n, func(n *api.Node) {
			n.Slot, n.Start, n.Corr, n.Members, n.Sent, n.Verdict = 9, 21050, 0, 6, false, null
		})
		if x.freeze {
			after.Phase = frozen
			expect(t, "freeze", timer(t, four, n, 0), after, notes(freezeNote, 0))
		} else {
			after.T = api.Tally{Good: 1}
			expect(t, "own", timer(t, four, n, 0), after, timerAt(21250))
		}
		// Ahead of another node's slot it does not freeze, and its tally stays.
		n.Slot, after.Slot, after.Phase, after.T, after.Members = 6, 7, active, x.t, 3
		expect(t, "another", timer(t, four, n, 0), after, timerAt(22050))
	}
}

func TestTimerGoesOver(t *testing.T) {
	// A slot is not above the last one, its own or another one's, be it that it freezes.
	for _, slot := range []uint64{1<<32 - 2, 1<<32 - 1} {
		if got := timer(t, four, listening(slot), 0); got.e != api.OK || got.n.Slot != slot+1 {
			t.Errorf("got %v", got)
		}
	}
	n := listening(1 << 32)
	fails(t, "slot", timer(t, four, n, 0), n, api.ErrOver)
	three := api.Medl{Nodes: 3, Slot: 100, Lead: 20, Frame: 30, Window: 10}
	n = changed(n, func(n *api.Node) { n.Id, n.T.Bad = 2, 9 })
	fails(t, "slot ahead of a freeze", timer(t, three, n, 0), n, api.ErrOver)
	n.Slot -= 3
	if got := timer(t, three, n, 0); got.e != api.OK || got.n.Phase != frozen {
		t.Errorf("got %v", got)
	}
	// Its next slot, and its timer there.
	for _, x := range []struct {
		slot uint64
		bad  int
		last int64
	}{{6, 0, 2000}, {8, 0, 1200}, {8, 9, 1000}} {
		n = changed(listening(x.slot), func(n *api.Node) { n.T.Bad, n.Start = x.bad, 1<<60-x.last })
		if got := timer(t, four, n, 0); got.e != api.OK || got.n.Start != n.Start+1000 {
			t.Errorf("got %v", got)
		}
		for _, start := range []int64{n.Start + 1, 1<<60 - 1000, 1<<60 - 999, 1<<60 - 1, 1 << 60} {
			if start > n.Start {
				over := changed(n, func(n *api.Node) { n.Start = start })
				fails(t, "over", timer(t, four, over, 0), over, api.ErrOver)
			}
		}
	}
}

// P13.2 and P13.3

func TestStepsOfWhatMayNotBe(t *testing.T) {
	nodes := []api.Node{{Id: 1, Osc: ten}}
	for phase := listen; phase <= frozen; phase++ {
		nodes = append(nodes, changed(works(), func(n *api.Node) { n.Phase = phase }))
	}
	for _, step := range steps {
		for _, n := range nodes {
			for _, now := range noTimes {
				fails(t, "no time", step(t, four, n, now), n, api.ErrArg)
			}
			for _, m := range bad() {
				fails(t, "no schedule", step(t, m, n, 5), n, api.ErrArg)
			}
			for _, n := range others(four, n) {
				for _, now := range []int64{0, 12000, 1 << 60, -1} {
					if got := step(t, four, n, now); !mayBe(four, n) || now < 0 {
						fails(t, "no node", got, n, api.ErrArg)
					}
				}
			}
		}
	}
}

func TestStepsAtTheEdges(t *testing.T) {
	for _, m := range good() {
		for _, id := range []int{0, 1, m.Nodes - 1} {
			for _, o := range clocks() {
				for _, now := range about(0, maxTime) {
					wake(t, m, api.Node{Id: id, Osc: o}, now)
					timer(t, m, api.Node{Id: id, Phase: listen, Osc: o}, now)
				}
			}
			for _, slot := range []uint64{uint64(id), uint64(m.Nodes-1+id) % uint64(m.Nodes), maxSlots - 1, maxSlots} {
				for _, corr := range []int64{-m.Window, 0, m.Window} {
					for _, sent := range []bool{false, true} {
						timer(t, m, api.Node{Id: id, Phase: active, Slot: slot, Start: 5, Osc: ten, Corr: corr, Members: 65535, Sent: sent, Devs: []int64{corr, 1}}, 0)
					}
				}
			}
		}
	}
}

func TestStepsOfDrawn(t *testing.T) {
	r := &row{from: 2}
	over, froze := 0, 0
	const many = 60000
	for range many {
		m := r.schedule()
		now := r.one(r.below(maxTime+1), maxTime-r.below(1<<r.within(0, 50)), r.below(100000))
		n := r.node(m, int(r.one(off, listen, active, active, active, active, active, frozen)))
		// Slots about its own come too seldom by themselves.
		if n.Phase == active && r.below(2) == 0 {
			n.Slot = min(n.Slot, maxSlots-40)/uint64(m.Nodes)*uint64(m.Nodes) + uint64(n.Id) + uint64(r.below(2)*int64(m.Nodes-1))
		}
		wake(t, m, n, now)
		got := timer(t, m, n, now)
		switch {
		case got.e == api.ErrOver:
			over++
		case got.n.Phase == frozen && n.Phase != frozen:
			froze++
		}
		if got.e == api.OK && Check(m, got.n) != api.OK {
			t.Errorf("Timer of %v, %v: %v may not be", m, n, got.n)
		}
	}
	if over < many/100 || over > many/2 || froze < many/100 {
		t.Errorf("of %d %d went over, %d froze", many, over, froze)
	}
}

// What a node at work does hangs on its clock alone, not on when it is told that its time is over.
func TestTimerAtWorkAsksForNoTime(t *testing.T) {
	r := &row{from: 3}
	for range 3000 {
		m := r.schedule()
		n := r.node(m, active)
		a, b := timer(t, m, n, 0), timer(t, m, n, r.below(maxTime))
		if !equal(a.n, b.n) || len(a.acts) != len(b.acts) || a.e != b.e {
			t.Errorf("%v, %v: got %v, and %v", m, n, a, b)
		}
	}
}
