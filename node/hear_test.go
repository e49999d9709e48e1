package node

import (
	"testing"

	"pallet/api"
	"pallet/crc"
	"pallet/frame"
)

// P13.4

// waiting is node 1 of four, which listens since 3000.
func waiting() api.Node { return api.Node{Id: 1, Phase: listen, Start: 3000, Osc: ten} }

// normal is a frame from the slot's owner of four.
func normal(slot uint64, members uint16) api.Frame {
	return api.Frame{Kind: 1, From: int(slot % 4), Slot: slot, Members: members}
}

func TestHearJoinsByHand(t *testing.T) {
	joined := api.Node{Id: 1, Phase: active, Slot: 6, Start: 5000, Osc: ten, Members: 4, T: api.Tally{Good: 1}, Devs: []int64{0}, Verdict: correct}
	expect(t, "join", hear(t, four, waiting(), 5500, 5200, normal(6, 4), false), joined, notes(joinNote, 6), timerAt(6000))
	// A node that starts is joined, too.
	cold := api.Frame{Kind: 2, From: 2, Slot: 6, Members: 4}
	expect(t, "cold", hear(t, four, waiting(), 5500, 5200, cold, false), joined, notes(joinNote, 6), timerAt(6000))
	// Who sends is there, and it itself is not.
	for _, x := range []struct{ told, members uint16 }{{0, 4}, {2, 4}, {6, 4}, {15, 13}, {13, 13}, {9, 13}, {65535, 65533}, {32768, 32772}} {
		joined.Members = x.members
		expect(t, "members", hear(t, four, waiting(), 5500, 5200, normal(6, x.told), false), joined, notes(joinNote, 6), timerAt(6000))
	}
	// Whatever it had is gone, but for its clock.
	had := changed(works(), func(n *api.Node) { n.Phase, n.Osc.Rem = listen, 999999999 })
	joined.Members, joined.Osc.Rem = 4, 999999999
	expect(t, "one that had more", hear(t, four, had, 5500, 5200, normal(6, 4), false), joined, notes(joinNote, 6), timerAt(6000))
	// It began ahead of when it listened: that plays no part.
	joined.Osc.Rem, joined.Start = 0, 2000
	expect(t, "began ahead", hear(t, four, waiting(), 2999, 2200, normal(6, 4), false), joined, notes(joinNote, 6), timerAt(3000))
}

func TestHearJoinsInEachSlot(t *testing.T) {
	for _, slot := range []uint64{0, 2, 3, 4, 1<<32 - 2, 1<<32 - 1, 1 << 32} {
		got := hear(t, four, waiting(), 5500, 5200, normal(slot, 9), false)
		if got.n.Slot != slot || got.n.Phase != active || len(got.acts) != 2 || got.acts[0] != notes(joinNote, int64(slot)) {
			t.Errorf("slot %d: got %v", slot, got)
		}
	}
	// Another node's frame is none of the slot's owner, be it one of no node of these.
	for from := range 16 {
		for slot := range uint64(20) {
			f := api.Frame{Kind: 1, From: from, Slot: slot, Members: 4}
			got := hear(t, four, waiting(), 5500, 5200, f, false)
			if joins := got.n.Phase == active; joins != (from != 1 && uint64(from) == slot%4) {
				t.Errorf("%v: got %v", f, got)
			}
		}
	}
}

// Its slot is one that is not over, and began at a time from 0 on.
func TestHearJoinsInTime(t *testing.T) {
	for _, x := range []struct {
		now, began int64
		joins      bool
	}{
		{5500, 200, false}, {999, 200, true}, {1000, 200, false}, {1001, 200, false}, {200, 200, true},
		{999, 199, false}, {199, 199, false}, {0, 0, false}, {5500, 4700, false}, {5499, 4700, true}, {5500, 4701, true}, {5500, 5500, true},
	} {
		n := waiting()
		got := hear(t, four, n, x.now, x.began, normal(6, 4), false)
		if joins := got.n.Phase == active; joins != x.joins || joins && (got.n.Start != x.began-200 || got.acts[1] != timerAt(x.began+800)) {
			t.Errorf("now %d, began %d: got %v", x.now, x.began, got)
		}
		if !x.joins {
			nothing(t, "too late, or too early", got, n)
		}
	}
}

// What its clock says of Lead ticks, and of a slot's, each begins with what is left of it.
func TestHearJoinsByItsClock(t *testing.T) {
	n := waiting()
	// 20 ticks are 200 picoseconds and two tenths, 100 are 1001.
	n.Osc = api.Osc{Period: 10, Drift: 1000000}
	for _, x := range []struct{ rem, start, end int64 }{{0, 5000, 6001}, {799999999, 5000, 6001}, {800000000, 4999, 6000}, {999999999, 4999, 6000}} {
		n.Osc.Rem = x.rem
		joined := api.Node{Id: 1, Phase: active, Slot: 6, Start: x.start, Osc: n.Osc, Members: 4, T: api.Tally{Good: 1}, Devs: []int64{0}, Verdict: correct}
		expect(t, "join", hear(t, four, n, x.end-1, 5200, normal(6, 4), false), joined, notes(joinNote, 6), timerAt(x.end))
		nothing(t, "over", hear(t, four, n, x.end, 5200, normal(6, 4), false), n)
	}
	n.Osc.Rem = 0
	if got := hear(t, four, n, 200, 200, normal(6, 4), false); got.n.Start != 0 || got.n.Phase != active {
		t.Errorf("got %v", got)
	}
	n.Osc.Rem = 800000000
	nothing(t, "ahead of 0", hear(t, four, n, 200, 200, normal(6, 4), false), n)
}

func TestHearJoinsOver(t *testing.T) {
	n := waiting()
	if got := hear(t, four, n, 1<<60, 1<<60-799, normal(6, 4), false); got.e != api.ErrOver {
		t.Errorf("got %v", got)
	}
	fails(t, "over", hear(t, four, n, 1<<60, 1<<60, normal(6, 4), false), n, api.ErrOver)
	fails(t, "over", hear(t, four, n, 1<<60-799, 1<<60-799, normal(6, 4), false), n, api.ErrOver)
	if got := hear(t, four, n, 1<<60-1, 1<<60-800, normal(6, 4), false); got.e != api.OK || got.acts[1] != timerAt(1<<60) {
		t.Errorf("got %v", got)
	}
	nothing(t, "over at its end", hear(t, four, n, 1<<60, 1<<60-800, normal(6, 4), false), n)
	nothing(t, "not the owner's", hear(t, four, n, 1<<60, 1<<60, api.Frame{Kind: 1, From: 2, Slot: 7}, false), n)
}

// quiet is node 1 of four in slot 6, of which it heard nothing yet, with members 0, 1 and 3.
func quiet() api.Node {
	return api.Node{Id: 1, Phase: active, Slot: 6, Start: 20000, Osc: ten, Corr: 3, Members: 11, T: api.Tally{Good: 3, Bad: 1}, Devs: []int64{0, 4}}
}

func TestHearJudgesByHand(t *testing.T) {
	n := quiet()
	heard := func(verdict int, t api.Tally, devs ...int64) api.Node {
		return changed(n, func(n *api.Node) { n.Verdict, n.T, n.Devs = verdict, t, append(n.Devs, devs...) })
	}
	good, bad := api.Tally{Good: 4, Bad: 1}, api.Tally{Good: 3, Bad: 2}
	expect(t, "correct", hear(t, four, n, 20700, 20230, normal(6, 15), false), heard(correct, good, 3))
	expect(t, "no ack", hear(t, four, n, 20700, 20190, normal(6, 13), false), heard(noAck, good, -1), notes(noAckNote, 2))
	for _, members := range []uint16{0, 2, 4, 6, 7, 9, 11, 14, 31, 65535} {
		expect(t, "wrong", hear(t, four, n, 20700, 20200, normal(6, members), false), heard(wrong, bad), notes(wrongNote, 2))
	}
	// Of another slot, or node; the note tells whose it is.
	expect(t, "slot", hear(t, four, n, 20700, 20200, api.Frame{Kind: 1, From: 2, Slot: 10, Members: 15}, false), heard(wrong, bad), notes(wrongNote, 2))
	for _, from := range []int{0, 3, 4, 15} {
		expect(t, "node", hear(t, four, n, 20700, 20200, api.Frame{Kind: 1, From: from, Slot: 6, Members: 15}, false), heard(wrong, bad), notes(wrongNote, int64(from)))
	}
	expect(t, "cold", hear(t, four, n, 20700, 20200, api.Frame{Kind: 2, From: 2, Slot: 6, Members: 15}, false), heard(correct, good, 0))
	// One that is no member itself hears that it is none.
	n.Members = 9
	expect(t, "no member", hear(t, four, n, 20700, 20200, normal(6, 13), false), heard(correct, good, 0))
	expect(t, "no member", hear(t, four, n, 20700, 20200, normal(6, 15), false), heard(wrong, bad), notes(wrongNote, 2))
	// To be there already changes nothing.
	n.Members = 15
	expect(t, "there", hear(t, four, n, 20700, 20200, normal(6, 15), false), heard(correct, good, 0))
	// It may have sent in its own slot, and that tells nothing of this one.
	n.Sent = true
	expect(t, "sent", hear(t, four, n, 20700, 20200, normal(6, 15), false), heard(correct, good, 0))
}

func TestHearCountsUpToItsBounds(t *testing.T) {
	n := changed(quiet(), func(n *api.Node) { n.T = api.Tally{Good: 1 << 30, Bad: 1 << 30} })
	for _, members := range []uint16{15, 13, 0} {
		if got := hear(t, four, n, 20700, 20200, normal(6, members), false); got.n.T != n.T || got.n.Verdict == null {
			t.Errorf("got %v", got)
		}
	}
	for many := 0; many <= 4; many++ {
		n := changed(quiet(), func(n *api.Node) { n.Devs = make([]int64, many) })
		for _, members := range []uint16{15, 13, 0} {
			got := hear(t, four, n, 20700, 20250, normal(6, members), false)
			if want := min(many+1, 4); members == 0 && len(got.n.Devs) != many || members != 0 && len(got.n.Devs) != want {
				t.Errorf("%d, %b: got %v", many, members, got)
			}
		}
	}
}

func TestHearInItsWindow(t *testing.T) {
	n := quiet()
	for _, x := range []struct{ began, late int64 }{
		{20100, -10}, {20109, -10}, {20110, -9}, {20199, -1}, {20200, 0}, {20209, 0}, {20210, 1}, {20300, 10}, {20309, 10},
	} {
		got := hear(t, four, n, 30000, x.began, normal(6, 15), false)
		expect(t, "in its window", got, changed(n, func(n *api.Node) { n.Verdict, n.T.Good, n.Devs = correct, 4, append(n.Devs, x.late) }))
	}
	for _, x := range []struct{ began, late int64 }{
		{20000, -20}, {20009, -20}, {20099, -11}, {20310, 11}, {20999, 79}, {21000, 80}, {30000, 980}, {1 << 60, 1<<40 - 20},
	} {
		for _, f := range []api.Frame{normal(6, 15), normal(6, 13), normal(6, 0), normal(7, 15), {Kind: 2, From: 15, Slot: 1 << 32}} {
			expect(t, "odd", hear(t, four, n, 1<<60, x.began, f, false), n, notes(oddNote, x.late))
		}
	}
	for _, began := range []int64{0, 19000, 19999} {
		nothing(t, "ahead of its slot", hear(t, four, n, 30000, began, normal(6, 15), false), n)
	}
}

// Its clock's ticks are those from the slot's beginning on, with what was left then.
func TestHearByItsClock(t *testing.T) {
	n := changed(quiet(), func(n *api.Node) { n.Osc = api.Osc{Period: 10, Drift: 1000000} })
	for _, x := range []struct{ rem, began, late int64 }{
		{0, 20200, 0}, {0, 20199, -1}, {799999999, 20200, 0}, {800000000, 20200, -1}, {800000000, 20201, 0}, {0, 20300, 10}, {0, 20299, 9}, {700000000, 20300, 9}, {699999999, 20300, 10}, {0, 20310, 11}, {0, 20100, -10}, {0, 20099, -11}, {0, 21000, 79}, {0, 21001, 80},
	} {
		n.Osc.Rem = x.rem
		got := hear(t, four, n, 30000, x.began, normal(6, 15), false)
		if x.late > 10 || x.late < -10 {
			expect(t, "odd", got, n, notes(oddNote, x.late))
			continue
		}
		expect(t, "in its window", got, changed(n, func(n *api.Node) { n.Verdict, n.T.Good, n.Devs = correct, 4, append(n.Devs, x.late) }))
	}
}

// Each thing that is passed over, of one that would else join, judge, or find it odd.
func TestHearPassesOver(t *testing.T) {
	for _, began := range []int64{20200, 20400} {
		for _, n := range []api.Node{waiting(), quiet()} {
			f := normal(6, 15)
			if got := hear(t, four, n, 20700, began, f, false); equal(got.n, n) && len(got.acts) == 0 {
				t.Fatalf("%v passes it over", n)
			}
			nothing(t, "bad", hear(t, four, n, 20700, began, f, true), n)
			nothing(t, "its own", hear(t, four, n, 20700, began, api.Frame{Kind: 1, From: 1, Slot: 5, Members: 15}, false), n)
			nothing(t, "from itself", hear(t, four, n, 20700, began, api.Frame{Kind: 1, From: 1, Slot: 6, Members: 15}, false), n)
			for _, b := range noFrames(t, f) {
				nothing(t, "no frame", hearText(t, four, n, 20700, began, b, nil, false), n)
				nothing(t, "bad, and no frame", hearText(t, four, n, 20700, began, b, nil, true), n)
			}
		}
	}
	for verdict := correct; verdict <= wrong; verdict++ {
		n := changed(quiet(), func(n *api.Node) { n.Verdict = verdict })
		for _, began := range []int64{20000, 20200, 20400} {
			nothing(t, "the second one", hear(t, four, n, 20700, began, normal(6, 15), false), n)
		}
	}
	for _, sent := range []bool{false, true} {
		n := changed(quiet(), func(n *api.Node) { n.Slot, n.Sent = 5, sent })
		for _, began := range []int64{20000, 20200, 20400} {
			nothing(t, "in its own slot", hear(t, four, n, 20700, began, normal(6, 15), false), n)
			nothing(t, "in its own slot", hear(t, four, n, 20700, began, api.Frame{Kind: 1, From: 2, Slot: 5, Members: 15}, false), n)
		}
	}
	for _, n := range []api.Node{{Id: 1, Osc: ten}, changed(quiet(), func(n *api.Node) { n.Phase = frozen })} {
		for _, began := range []int64{0, 20200, 20400} {
			nothing(t, "off, or frozen", hear(t, four, n, 20700, began, normal(6, 15), false), n)
		}
	}
}

// noFrames are texts that are nearly a frame's.
func noFrames(t *testing.T, f api.Frame) [][]byte {
	t.Helper()
	b, e := frame.Write(f)
	if e != api.OK {
		t.Fatalf("got %d", e)
	}
	l := [][]byte{nil, {}, {0}, {161, 1}, b[1:], b[:len(b)-1], append(append([]byte(nil), b...), 1), make([]byte, 10), make([]byte, api.MaxBytes+4)}
	for at := range 8 * len(b) {
		turned, _ := crc.Turn(b, at)
		l = append(l, turned)
	}
	sealed := func(b ...byte) {
		text, _ := crc.Seal24(b)
		l = append(l, text)
	}
	sealed()
	sealed(161, 3, 2, 6, 0, 15)
	sealed(161, 1, 16, 6, 0, 15)
	sealed(160, 1, 2, 6, 0, 15)
	sealed(161, 1, 2, 6, 0, 15, 0)
	return l
}

func TestHearOfWhatMayNotBe(t *testing.T) {
	nodes := []api.Node{{Id: 1, Osc: ten}, waiting(), quiet(), changed(quiet(), func(n *api.Node) { n.Phase = frozen })}
	f := normal(6, 15)
	for _, n := range nodes {
		for _, garbled := range []bool{false, true} {
			for _, now := range noTimes {
				for _, began := range []int64{now, 0, 5, -1, 20200} {
					fails(t, "no time", hear(t, four, n, now, began, f, garbled), n, api.ErrArg)
				}
			}
			for _, began := range append(noTimes, 20701, 1<<60) {
				fails(t, "not begun", hear(t, four, n, 20700, began, f, garbled), n, api.ErrArg)
				fails(t, "not begun, and no frame", hearText(t, four, n, 20700, began, nil, nil, garbled), n, api.ErrArg)
			}
			for _, m := range bad() {
				fails(t, "no schedule", hear(t, m, n, 20700, 20200, f, garbled), n, api.ErrArg)
			}
		}
		for _, n := range others(four, n) {
			if got := hear(t, four, n, 20700, 20200, f, false); !mayBe(four, n) {
				fails(t, "no node", got, n, api.ErrArg)
			}
		}
	}
	for _, now := range []int64{0, 1 << 60} {
		n := api.Node{Id: 1, Osc: ten}
		nothing(t, "at the edges", hear(t, four, n, now, 0, f, false), n)
		nothing(t, "at the edges", hear(t, four, n, now, now, f, false), n)
	}
}

// drawnFrame is a frame that a node might hear, more often than not one that is due.
func (r *row) drawnFrame(m api.Medl, n api.Node) api.Frame {
	slot := n.Slot
	if n.Phase == listen || r.below(8) == 0 {
		slot = uint64(r.one(r.below(64), r.below(maxSlots), maxSlots-r.below(20)))
	}
	f := api.Frame{Kind: int(r.within(1, 2)), From: whose(m, slot), Slot: slot}
	if r.below(8) == 0 {
		f.From = int(r.below(16))
	}
	due := with(n.Members, f.From)
	f.Members = uint16(r.one(int64(due), int64(due), int64(without(due, n.Id)), int64(n.Members), r.below(65536)))
	return f
}

// drawnTimes are when a frame began, and when it was heard: about the edges of a window, or a slot, where there is room.
func (r *row) drawnTimes(m api.Medl, n api.Node) (int64, int64) {
	tick := max(n.Osc.Period, 1)
	late := r.one(-m.Window, m.Window, r.within(-m.Window, m.Window), r.within(-m.Lead, m.Slot))
	began := n.Start + (m.Lead+late)*tick + r.one(0, -1, 1, r.below(tick))
	began = max(0, min(began, maxTime))
	now := began + r.one(0, m.Frame*tick, (m.Slot-m.Lead)*tick-r.within(-1, 1), r.below(m.Slot*tick))
	return began, max(began, min(now, maxTime))
}

func TestHearOfDrawn(t *testing.T) {
	r := &row{from: 4}
	met := map[int]int{}
	const many = 60000
	for range many {
		m := r.schedule()
		n := r.node(m, int(r.one(off, listen, listen, active, active, active, active, active, frozen)))
		if r.below(2) == 0 {
			n.Verdict = null
		}
		f := r.drawnFrame(m, n)
		began, now := r.drawnTimes(m, n)
		got := hear(t, m, n, now, began, f, r.below(16) == 0)
		if got.e == api.OK && Check(m, got.n) != api.OK {
			t.Errorf("Hear of %v, %v: %v may not be", m, n, got.n)
		}
		switch {
		case got.e != api.OK:
			met[-1]++
		case len(got.acts) > 0:
			met[got.acts[0].A]++
		case n.Phase == active && got.n.Verdict != n.Verdict:
			met[0]++
		}
	}
	// What came too seldom would tell nothing.
	for _, kind := range []int{-1, 0, joinNote, wrongNote, noAckNote, oddNote} {
		if met[kind] < many/500 {
			t.Errorf("of %d only %d came to %d", many, met[kind], kind)
		}
	}
}

func TestHearAtTheEdges(t *testing.T) {
	for _, m := range good() {
		for _, o := range []api.Osc{{Period: 1}, {Period: 1, Drift: -maxDrift}, {Period: maxPeriod, Drift: maxDrift, Rem: billion - 1}} {
			for id := range m.Nodes {
				slot := uint64(id+1) % uint64(m.Nodes)
				n := api.Node{Id: id, Phase: active, Slot: slot, Start: 7, Osc: o, Members: 1 << id}
				f := api.Frame{Kind: 1, From: int(slot), Slot: slot, Members: 1<<id | 1<<slot}
				lead, _ := lasts(o, m.Lead)
				window, _ := lasts(o, m.Window)
				length, _ := lasts(o, m.Slot)
				middle := 7 + lead.Int64()
				for _, began := range about(7, middle, middle-window.Int64(), middle+window.Int64(), 7+length.Int64()) {
					hear(t, m, n, maxTime, max(began, 0), f, false)
				}
				n.Phase = listen
				for _, began := range about(lead.Int64(), middle) {
					for _, now := range about(began, began-lead.Int64()+length.Int64()) {
						hear(t, m, n, max(now, 0), max(began, 0), f, false)
					}
				}
			}
		}
	}
}
