package member

import (
	"math"
	"slices"
	"testing"

	"pallet/api"
	"pallet/drawn"
)

// The chapters' numbers, written out: a limit that is mistaken elsewhere is noticed here.
const (
	maxNodes = 16
	maxSlots = 4294967296
	topCount = 1073741824
)

// The four verdicts, written out.
const (
	null    = 0
	correct = 1
	noAck   = 2
	wrong   = 3
)

// of is a plain schedule of so many nodes.
func of(nodes int) api.Medl {
	return api.Medl{Nodes: nodes, Slot: 100, Lead: 20, Frame: 30, Window: 10}
}

var four = of(4)

// bad are schedules that may not be.
var bad = []api.Medl{
	{},
	{Nodes: 1, Slot: 100, Lead: 20, Frame: 30, Window: 10},
	{Nodes: 17, Slot: 100, Lead: 20, Frame: 30, Window: 10},
	{Nodes: 0, Slot: 100, Lead: 20, Frame: 30, Window: 10},
	{Nodes: -4, Slot: 100, Lead: 20, Frame: 30, Window: 10},
	{Nodes: math.MaxInt, Slot: 100, Lead: 20, Frame: 30, Window: 10},
	{Nodes: 4, Slot: 15, Lead: 2, Frame: 3, Window: 1},
	{Nodes: 4, Slot: 1048577, Lead: 20, Frame: 30, Window: 10},
	{Nodes: 4, Slot: 60, Lead: 20, Frame: 30, Window: 10},
	{Nodes: 4, Slot: 100, Lead: 9, Frame: 30, Window: 10},
	{Nodes: 4, Slot: 100, Lead: 0, Frame: 30, Window: 0},
	{Nodes: 4, Slot: 100, Lead: 20, Frame: 0, Window: 10},
	{Nodes: 4, Slot: 100, Lead: 20, Frame: 30, Window: 0},
}

// strangers are no nodes of four.
var strangers = []int{-1, -4, 4, 5, 15, 16, 17, 64, 256, 1 << 32, math.MaxInt, math.MinInt}

// slotsAbove are no slots.
var slotsAbove = []uint64{maxSlots + 1, maxSlots + 2, maxSlots + 16, 1 << 33, math.MaxInt64, 1 << 63, math.MaxUint64 - 3, math.MaxUint64}

// noVerdicts are none of the four.
var noVerdicts = []int{-1, -2, -3, 4, 5, 7, 256, 1 << 32, 1<<32 + 1, math.MaxInt, math.MinInt}

// crowd tells of each node whether it is a member.
type crowd [maxNodes]bool

func crowdOf(members uint16) crowd {
	var c crowd
	for n := range c {
		c[n] = members%2 == 1
		members /= 2
	}
	return c
}

func (c crowd) members() uint16 {
	members, worth := 0, 1
	for _, is := range c {
		if is {
			members += worth
		}
		worth *= 2
	}
	return uint16(members)
}

func (c crowd) with(node int) crowd {
	c[node] = true
	return c
}

func (c crowd) without(node int) crowd {
	c[node] = false
	return c
}

// whose is a slot's owner.
func whose(m api.Medl, slot uint64) int { return int(slot % uint64(m.Nodes)) }

// judged is what a frame is, by the chapter's own words, each of them.
func judged(m api.Medl, me int, own uint16, slot uint64, f api.Frame) int {
	is := func(own crowd) bool {
		return f.From == whose(m, slot) && f.Slot == slot && crowdOf(f.Members) == own.with(f.From)
	}
	mine := crowdOf(own)
	switch {
	case is(mine):
		return correct
	case is(mine.without(me)) && mine[me] && me != f.From:
		return noAck
	}
	return wrong
}

// behind are the members behind a slot, by the chapter's own words.
func behind(m api.Medl, me int, own uint16, slot uint64, verdict int) uint16 {
	mine, owner := crowdOf(own), whose(m, slot)
	switch {
	case owner == me:
		return mine.with(me).members()
	case verdict == correct:
		return mine.with(owner).members()
	case verdict == noAck:
		return mine.with(owner).without(me).members()
	}
	return mine.without(owner).members()
}

// counted is a tally with one verdict more, by the chapter's own words.
func counted(t api.Tally, verdict int) (api.Tally, api.Errno) {
	for _, n := range [2]int{t.Good, t.Bad} {
		if n < 0 || n > topCount {
			return api.Tally{}, api.ErrArg
		}
	}
	switch verdict {
	case null:
	case correct, noAck:
		if t.Good < topCount {
			t.Good++
		}
	case wrong:
		if t.Bad < topCount {
			t.Bad++
		}
	default:
		return api.Tally{}, api.ErrArg
	}
	return t, api.OK
}

// manyMembers are the members at the edges, of few nodes and of many, and drawn ones.
func manyMembers() []uint16 {
	l := []uint16{0, 1, 2, 3, 5, 7, 9, 15, 16, 0x8000, 0x8001, 0x7fff, 0xfffe, 0xffff, 0x5555, 0xaaaa}
	for _, n := range drawn.Numbers(30, 10) {
		l = append(l, uint16(n))
	}
	return l
}

// P10.1

func TestTheNumbersAreTheChapters(t *testing.T) {
	for name, same := range map[string]bool{
		"NullV":    api.NullV == null,
		"CorrectV": api.CorrectV == correct,
		"NoAckV":   api.NoAckV == noAck,
		"WrongV":   api.WrongV == wrong,
		"MaxNodes": api.MaxNodes == maxNodes,
		"MaxSlots": api.MaxSlots == maxSlots,
	} {
		if !same {
			t.Errorf("%s is another number", name)
		}
	}
}

func TestJudgeByHand(t *testing.T) {
	for i, x := range []struct {
		me   int
		own  uint16
		slot uint64
		f    api.Frame
		want int
		e    api.Errno
	}{
		// The chapter's examples.
		{0, 3, 2, api.Frame{Kind: 1, From: 2, Slot: 2, Members: 7}, correct, api.OK},
		{0, 3, 2, api.Frame{Kind: 1, From: 2, Slot: 2, Members: 6}, noAck, api.OK},
		// A frame of either kind; the sender among the own members already, or not.
		{0, 7, 2, api.Frame{Kind: 1, From: 2, Slot: 2, Members: 7}, correct, api.OK},
		{0, 3, 2, api.Frame{Kind: 2, From: 2, Slot: 2, Members: 7}, correct, api.OK},
		{0, 7, 2, api.Frame{Kind: 2, From: 2, Slot: 2, Members: 6}, noAck, api.OK},
		// A node that is not among its own members is not missed.
		{0, 6, 2, api.Frame{Kind: 1, From: 2, Slot: 2, Members: 6}, correct, api.OK},
		{0, 6, 2, api.Frame{Kind: 1, From: 2, Slot: 2, Members: 7}, wrong, api.OK},
		// It is another node that is missed; it, and another one; nobody is there.
		{1, 3, 2, api.Frame{Kind: 1, From: 2, Slot: 2, Members: 6}, wrong, api.OK},
		{0, 3, 2, api.Frame{Kind: 1, From: 2, Slot: 2, Members: 4}, wrong, api.OK},
		{0, 3, 2, api.Frame{Kind: 1, From: 2, Slot: 2, Members: 0}, wrong, api.OK},
		// The sender is not among its own members.
		{0, 3, 2, api.Frame{Kind: 1, From: 2, Slot: 2, Members: 3}, wrong, api.OK},
		{0, 7, 2, api.Frame{Kind: 1, From: 2, Slot: 2, Members: 3}, wrong, api.OK},
		{0, 7, 2, api.Frame{Kind: 1, From: 2, Slot: 2, Members: 2}, wrong, api.OK},
		// Of another node, and of another slot, a round later too.
		{0, 3, 2, api.Frame{Kind: 1, From: 1, Slot: 2, Members: 7}, wrong, api.OK},
		{0, 3, 2, api.Frame{Kind: 1, From: 1, Slot: 2, Members: 3}, wrong, api.OK},
		{0, 3, 2, api.Frame{Kind: 1, From: 6, Slot: 2, Members: 67}, wrong, api.OK},
		{0, 3, 2, api.Frame{Kind: 1, From: 15, Slot: 2, Members: 0x8003}, wrong, api.OK},
		{0, 3, 2, api.Frame{Kind: 1, From: 2, Slot: 3, Members: 7}, wrong, api.OK},
		{0, 3, 2, api.Frame{Kind: 1, From: 2, Slot: 6, Members: 7}, wrong, api.OK},
		{0, 3, 6, api.Frame{Kind: 1, From: 2, Slot: 6, Members: 7}, correct, api.OK},
		{0, 3, 6, api.Frame{Kind: 1, From: 2, Slot: 2, Members: 6}, wrong, api.OK},
		// What it sends itself.
		{2, 3, 2, api.Frame{Kind: 1, From: 2, Slot: 2, Members: 7}, correct, api.OK},
		{2, 7, 2, api.Frame{Kind: 1, From: 2, Slot: 2, Members: 7}, correct, api.OK},
		{2, 7, 2, api.Frame{Kind: 1, From: 2, Slot: 2, Members: 3}, wrong, api.OK},
		// Members that no node of the schedule is are compared as all others.
		{0, 0x8003, 2, api.Frame{Kind: 1, From: 2, Slot: 2, Members: 0x8007}, correct, api.OK},
		{0, 0x8003, 2, api.Frame{Kind: 1, From: 2, Slot: 2, Members: 0x8006}, noAck, api.OK},
		{0, 0x8003, 2, api.Frame{Kind: 1, From: 2, Slot: 2, Members: 7}, wrong, api.OK},
		{0, 3, 2, api.Frame{Kind: 1, From: 2, Slot: 2, Members: 0x8007}, wrong, api.OK},
		// The last slot is node 0's.
		{1, 3, 4294967296, api.Frame{Kind: 1, From: 0, Slot: 4294967296, Members: 3}, correct, api.OK},
		{1, 3, 4294967296, api.Frame{Kind: 1, From: 0, Slot: 4294967296, Members: 1}, noAck, api.OK},
		{1, 3, 4294967297, api.Frame{Kind: 1, From: 1, Slot: 4294967296, Members: 3}, 0, api.ErrArg},
		{1, 3, 0, api.Frame{Kind: 1, From: 0, Slot: 4294967296, Members: 3}, wrong, api.OK},
		// Frames that may not be, though they are wrong, too, or not.
		{0, 3, 2, api.Frame{From: 2, Slot: 2, Members: 7}, 0, api.ErrArg},
		{0, 3, 2, api.Frame{Kind: 3, From: 2, Slot: 2, Members: 7}, 0, api.ErrArg},
		{0, 3, 2, api.Frame{Kind: -1, From: 2, Slot: 2, Members: 7}, 0, api.ErrArg},
		{0, 3, 2, api.Frame{Kind: 3, From: 1, Slot: 2, Members: 7}, 0, api.ErrArg},
		{0, 3, 2, api.Frame{Kind: 1, From: 16, Slot: 2, Members: 7}, 0, api.ErrArg},
		{0, 3, 2, api.Frame{Kind: 1, From: -1, Slot: 2, Members: 7}, 0, api.ErrArg},
		{0, 3, 2, api.Frame{Kind: 1, From: 2, Slot: 4294967297, Members: 7}, 0, api.ErrArg},
		{4, 3, 2, api.Frame{Kind: 1, From: 2, Slot: 2, Members: 7}, 0, api.ErrArg},
		{-1, 3, 2, api.Frame{Kind: 1, From: 2, Slot: 2, Members: 7}, 0, api.ErrArg},
	} {
		if v, e := Judge(four, x.me, x.own, x.slot, x.f); v != x.want || e != x.e {
			t.Errorf("%d: got %d, %d, not %d, %d", i, v, e, x.want, x.e)
		}
	}
}

func compareJudge(t *testing.T, m api.Medl, me int, own uint16, slot uint64, f api.Frame) {
	t.Helper()
	want := judged(m, me, own, slot, f)
	if v, e := Judge(m, me, own, slot, f); v != want || e != api.OK {
		t.Errorf("%d nodes, node %d of %b in slot %d, %v: got %d, %d, not %d", m.Nodes, me, own, slot, f, v, e, want)
	}
}

func TestJudgeOfAllSmall(t *testing.T) {
	for nodes := 2; nodes <= 4; nodes++ {
		m, all := of(nodes), uint16(1)<<nodes
		for me := range nodes {
			for own := range all {
				for slot := range uint64(nodes + 1) {
					for from := range nodes + 1 {
						for at := range uint64(2*nodes + 1) {
							for members := range all {
								compareJudge(t, m, me, own, slot, api.Frame{Kind: 1, From: from, Slot: at, Members: members})
							}
						}
					}
				}
			}
		}
	}
}

// Frames of the slot's owner that name others than the own members by some few nodes.
func TestJudgeOfMany(t *testing.T) {
	for nodes := 2; nodes <= maxNodes; nodes++ {
		m := of(nodes)
		for _, own := range manyMembers() {
			for me := range nodes {
				for _, slot := range []uint64{uint64(me), uint64(me + 1), 1<<31 + 5, maxSlots - 1, maxSlots} {
					f := api.Frame{Kind: 1 + me%2, From: whose(m, slot), Slot: slot, Members: own}
					compareJudge(t, m, me, own, slot, f)
					for a := range maxNodes {
						f.Members = own ^ 1<<a
						compareJudge(t, m, me, own, slot, f)
						f.Members ^= 1 << me
						compareJudge(t, m, me, own, slot, f)
						f.Members ^= 1 << f.From
						compareJudge(t, m, me, own, slot, f)
					}
				}
			}
		}
	}
}

// Where a frame is right, another sender or another slot of its own makes it wrong.
func TestJudgeOfOtherSendersAndSlots(t *testing.T) {
	for nodes := 2; nodes <= maxNodes; nodes++ {
		m := of(nodes)
		for _, slot := range []uint64{0, 1, 2, 37, 1 << 31, 1<<32 - 1, maxSlots} {
			for from := range maxNodes {
				for _, at := range []uint64{slot, slot ^ 1, slot ^ 1<<8, slot ^ 1<<31, slot % (1 << 31), slot + uint64(nodes), slot - uint64(nodes)} {
					if at > maxSlots {
						continue
					}
					for me := range nodes {
						compareJudge(t, m, me, 0xffff, slot, api.Frame{Kind: 2, From: from, Slot: at, Members: 0xffff})
						compareJudge(t, m, me, 0xffff, slot, api.Frame{Kind: 2, From: from, Slot: at, Members: 0xffff ^ 1<<me})
					}
				}
			}
		}
	}
}

func TestAfterByHand(t *testing.T) {
	for i, x := range []struct {
		me      int
		own     uint16
		slot    uint64
		verdict int
		want    uint16
		e       api.Errno
	}{
		{0, 3, 2, correct, 7, api.OK},
		{0, 7, 2, correct, 7, api.OK},
		{0, 3, 2, noAck, 6, api.OK},
		{0, 7, 2, noAck, 6, api.OK},
		{0, 2, 2, noAck, 6, api.OK},
		{0, 7, 2, null, 3, api.OK},
		{0, 3, 2, null, 3, api.OK},
		{0, 7, 2, wrong, 3, api.OK},
		{0, 3, 2, wrong, 3, api.OK},
		// Of its own slot it is one, whatever the verdict.
		{2, 3, 2, null, 7, api.OK},
		{2, 3, 2, correct, 7, api.OK},
		{2, 3, 2, noAck, 7, api.OK},
		{2, 3, 2, wrong, 7, api.OK},
		{2, 7, 6, null, 7, api.OK},
		{2, 7, 6, correct, 7, api.OK},
		{2, 7, 6, noAck, 7, api.OK},
		{2, 7, 6, wrong, 7, api.OK},
		// A verdict that is none is none there, too.
		{2, 3, 2, 4, 0, api.ErrArg},
		{2, 3, 2, -1, 0, api.ErrArg},
		{0, 3, 2, 4, 0, api.ErrArg},
		{0, 3, 2, -1, 0, api.ErrArg},
		{4, 3, 2, correct, 0, api.ErrArg},
		{-1, 3, 2, correct, 0, api.ErrArg},
		// Those whom the schedule does not know stay.
		{0, 0x8003, 2, correct, 0x8007, api.OK},
		{0, 0x8007, 2, wrong, 0x8003, api.OK},
		{0, 0, 2, null, 0, api.OK},
		{0, 3, 4294967295, correct, 11, api.OK},
		{1, 2, 4294967296, correct, 3, api.OK},
		{0, 3, 4294967297, correct, 0, api.ErrArg},
	} {
		if own, e := After(four, x.me, x.own, x.slot, x.verdict); own != x.want || e != x.e {
			t.Errorf("%d: got %b, %d, not %b, %d", i, own, e, x.want, x.e)
		}
	}
}

func compareAfter(t *testing.T, m api.Medl, me int, own uint16, slot uint64) {
	t.Helper()
	for verdict := null; verdict <= wrong; verdict++ {
		want := behind(m, me, own, slot, verdict)
		if members, e := After(m, me, own, slot, verdict); members != want || e != api.OK {
			t.Errorf("%d nodes, node %d of %b behind slot %d, %d: got %b, %d, not %b", m.Nodes, me, own, slot, verdict, members, e, want)
		}
	}
}

func TestAfterOfAllSmall(t *testing.T) {
	for nodes := 2; nodes <= 5; nodes++ {
		for me := range nodes {
			for own := range uint16(1) << nodes {
				for slot := range uint64(2*nodes + 1) {
					compareAfter(t, of(nodes), me, own, slot)
				}
			}
		}
	}
}

func TestAfterOfMany(t *testing.T) {
	for nodes := 2; nodes <= maxNodes; nodes++ {
		for me := range nodes {
			for _, own := range manyMembers() {
				for slot := range uint64(nodes) {
					compareAfter(t, of(nodes), me, own, slot)
					compareAfter(t, of(nodes), me, own, maxSlots-slot)
				}
			}
		}
	}
}

// What may not be is ErrArg in all calls of a schedule, and all else is zero.
func refused(t *testing.T, m api.Medl, me int, slot uint64) {
	t.Helper()
	f := api.Frame{Kind: 1, From: 0, Slot: 0, Members: 3}
	if v, e := Judge(m, me, 3, slot, f); v != 0 || e != api.ErrArg {
		t.Errorf("Judge(%v, %d, slot %d): got %d, %d", m, me, slot, v, e)
	}
	for _, verdict := range []int{null, correct, noAck, wrong, 4, -1} {
		if own, e := After(m, me, 3, slot, verdict); own != 0 || e != api.ErrArg {
			t.Errorf("After(%v, %d, slot %d, %d): got %b, %d", m, me, slot, verdict, own, e)
		}
	}
	for _, l := range [][]int{nil, {}, {correct}, {null, wrong}, {4}, {0, 0, 0, 0, 0, 0, 0, 0, 0, 0, 0, 0, 0, 0, 0, 0, 0, 0}} {
		if own, tally, e := Round(m, me, 3, slot, l...); own != 0 || tally != (api.Tally{}) || e != api.ErrArg {
			t.Errorf("Round(%v, %d, slot %d, %v): got %b, %v, %d", m, me, slot, l, own, tally, e)
		}
	}
}

func TestWhatMayNotBe(t *testing.T) {
	for _, m := range bad {
		for _, me := range []int{0, 1, 3, -1, 16, math.MaxInt} {
			for _, slot := range []uint64{0, 1, 7, maxSlots, maxSlots + 1, math.MaxUint64} {
				refused(t, m, me, slot)
			}
		}
	}
	for _, me := range strangers {
		for _, slot := range []uint64{0, 1, maxSlots, maxSlots + 1} {
			refused(t, four, me, slot)
		}
	}
	for _, slot := range slotsAbove {
		for me := range 4 {
			refused(t, four, me, slot)
		}
	}
}

func TestNodesOfEachSchedule(t *testing.T) {
	for nodes := 2; nodes <= maxNodes; nodes++ {
		m := of(nodes)
		for _, me := range []int{-1, nodes, nodes + 1} {
			refused(t, m, me, 0)
		}
		for me := range nodes {
			if own, tally, e := Round(m, me, 3, 0); own != 3 || tally != (api.Tally{}) || e != api.OK {
				t.Errorf("%d nodes, node %d: got %b, %v, %d", nodes, me, own, tally, e)
			}
		}
	}
}

// A frame that may not be is ErrArg, whatever else there is to say of it.
func TestJudgeOfFramesThatMayNotBe(t *testing.T) {
	frames := []api.Frame{{}}
	for _, kind := range []int{0, -1, 3, 4, 257, 258, 1<<32 + 1, math.MaxInt, math.MinInt} {
		frames = append(frames, api.Frame{Kind: kind, From: 2, Slot: 2, Members: 7})
	}
	for _, from := range []int{-1, -14, 16, 18, 1<<32 + 2, math.MaxInt, math.MinInt} {
		frames = append(frames, api.Frame{Kind: 1, From: from, Slot: 2, Members: 7})
	}
	for _, slot := range slotsAbove {
		frames = append(frames, api.Frame{Kind: 1, From: 2, Slot: slot, Members: 7})
	}
	for _, f := range frames {
		for me := range 4 {
			for _, slot := range []uint64{0, 1, 2, 6, maxSlots} {
				if v, e := Judge(four, me, 7, slot, f); v != 0 || e != api.ErrArg {
					t.Errorf("node %d in slot %d, %v: got %d, %d", me, slot, f, v, e)
				}
			}
		}
	}
}

func TestAfterOfNoVerdict(t *testing.T) {
	for _, verdict := range noVerdicts {
		for me := range 4 {
			for slot := range uint64(4) {
				if own, e := After(four, me, 15, slot, verdict); own != 0 || e != api.ErrArg {
					t.Errorf("node %d behind slot %d, %d: got %b, %d", me, slot, verdict, own, e)
				}
			}
		}
	}
}

// P10.2

func TestCountByHand(t *testing.T) {
	const top = 1073741824
	for i, x := range []struct {
		t       api.Tally
		verdict int
		want    api.Tally
		e       api.Errno
	}{
		{api.Tally{}, null, api.Tally{}, api.OK},
		{api.Tally{}, correct, api.Tally{Good: 1}, api.OK},
		{api.Tally{}, noAck, api.Tally{Good: 1}, api.OK},
		{api.Tally{}, wrong, api.Tally{Bad: 1}, api.OK},
		{api.Tally{Good: 5, Bad: 7}, null, api.Tally{Good: 5, Bad: 7}, api.OK},
		{api.Tally{Good: 5, Bad: 7}, correct, api.Tally{Good: 6, Bad: 7}, api.OK},
		{api.Tally{Good: 5, Bad: 7}, noAck, api.Tally{Good: 6, Bad: 7}, api.OK},
		{api.Tally{Good: 5, Bad: 7}, wrong, api.Tally{Good: 5, Bad: 8}, api.OK},
		{api.Tally{Good: top - 1, Bad: top - 1}, correct, api.Tally{Good: top, Bad: top - 1}, api.OK},
		{api.Tally{Good: top - 1, Bad: top - 1}, wrong, api.Tally{Good: top - 1, Bad: top}, api.OK},
		{api.Tally{Good: top, Bad: top}, correct, api.Tally{Good: top, Bad: top}, api.OK},
		{api.Tally{Good: top, Bad: top}, noAck, api.Tally{Good: top, Bad: top}, api.OK},
		{api.Tally{Good: top, Bad: top}, wrong, api.Tally{Good: top, Bad: top}, api.OK},
		{api.Tally{Good: top, Bad: top}, null, api.Tally{Good: top, Bad: top}, api.OK},
		{api.Tally{Good: top, Bad: 3}, wrong, api.Tally{Good: top, Bad: 4}, api.OK},
		{api.Tally{Good: top + 1}, null, api.Tally{}, api.ErrArg},
		{api.Tally{Good: top + 1}, wrong, api.Tally{}, api.ErrArg},
		{api.Tally{Bad: top + 1}, null, api.Tally{}, api.ErrArg},
		{api.Tally{Bad: top + 1}, correct, api.Tally{}, api.ErrArg},
		{api.Tally{Good: -1}, correct, api.Tally{}, api.ErrArg},
		{api.Tally{Bad: -1}, wrong, api.Tally{}, api.ErrArg},
		{api.Tally{Bad: -1}, null, api.Tally{}, api.ErrArg},
		{api.Tally{Good: 5, Bad: 7}, 4, api.Tally{}, api.ErrArg},
		{api.Tally{Good: 5, Bad: 7}, -1, api.Tally{}, api.ErrArg},
	} {
		if tally, e := Count(x.t, x.verdict); tally != x.want || e != x.e {
			t.Errorf("%d: got %v, %d, not %v, %d", i, tally, e, x.want, x.e)
		}
	}
}

// manyCounts are a tally's numbers at the edges, those that may not be among them.
func manyCounts() []int {
	return []int{0, 1, 2, 3, 100, topCount - 2, topCount - 1, topCount, topCount + 1, topCount + 2, 1 << 31, 1 << 32, 1<<32 + 1,
		math.MaxInt - 1, math.MaxInt, -1, -2, -topCount, -1 << 32, math.MinInt, math.MinInt + 1}
}

func TestCountAtTheEdges(t *testing.T) {
	verdicts := append([]int{null, correct, noAck, wrong}, noVerdicts...)
	for _, a := range manyCounts() {
		for _, b := range manyCounts() {
			for _, verdict := range verdicts {
				tally := api.Tally{Good: a, Bad: b}
				want, f := counted(tally, verdict)
				if got, e := Count(tally, verdict); got != want || e != f {
					t.Errorf("Count(%v, %d): got %v, %d, not %v, %d", tally, verdict, got, e, want, f)
				}
			}
		}
	}
}

func TestCliqueByHand(t *testing.T) {
	for i, x := range []struct {
		t    api.Tally
		want bool
	}{
		{api.Tally{}, false},
		{api.Tally{Good: 1}, false},
		{api.Tally{Bad: 1}, true},
		{api.Tally{Good: 1, Bad: 1}, true},
		{api.Tally{Good: 2, Bad: 1}, false},
		{api.Tally{Good: 2, Bad: 2}, true},
		{api.Tally{Good: 2, Bad: 3}, true},
		{api.Tally{Good: 3, Bad: 2}, false},
		{api.Tally{Good: 1073741824, Bad: 1073741824}, true},
		{api.Tally{Good: 1073741824, Bad: 1073741823}, false},
		// No tally that is counted, but asked the same.
		{api.Tally{Good: -1}, false},
		{api.Tally{Good: -2, Bad: -1}, false},
		{api.Tally{Good: math.MinInt}, false},
		{api.Tally{Good: -1, Bad: 1}, true},
		{api.Tally{Good: math.MinInt, Bad: math.MaxInt}, true},
		{api.Tally{Good: math.MaxInt, Bad: math.MaxInt}, true},
		{api.Tally{Good: math.MaxInt, Bad: math.MinInt}, false},
	} {
		if is := Clique(x.t); is != x.want {
			t.Errorf("%d: Clique(%v): got %v", i, x.t, is)
		}
	}
}

func TestCliqueAtTheEdges(t *testing.T) {
	for _, a := range manyCounts() {
		for _, b := range manyCounts() {
			want := !(b < a)
			if b <= 0 {
				want = false
			}
			if is := Clique(api.Tally{Good: a, Bad: b}); is != want {
				t.Errorf("%d good, %d bad: got %v", a, b, is)
			}
		}
	}
}

// P10.3

func TestRoundByHand(t *testing.T) {
	for i, x := range []struct {
		me    int
		own   uint16
		slot  uint64
		l     []int
		want  uint16
		tally api.Tally
		e     api.Errno
	}{
		{1, 2, 0, []int{correct, null, wrong, noAck}, 9, api.Tally{Good: 2, Bad: 1}, api.OK},
		{1, 2, 0, nil, 2, api.Tally{}, api.OK},
		{1, 2, 0, []int{}, 2, api.Tally{}, api.OK},
		{1, 2, 3, []int{correct}, 10, api.Tally{Good: 1}, api.OK},
		// From a later slot on, and into the next round.
		{1, 15, 2, []int{null, wrong, noAck, null}, 3, api.Tally{Good: 1, Bad: 1}, api.OK},
		{1, 15, 6, []int{null, wrong, noAck}, 1, api.Tally{Good: 1, Bad: 1}, api.OK},
		{0, 15, 1, []int{wrong, wrong, wrong, wrong}, 1, api.Tally{Bad: 4}, api.OK},
		{3, 0, 0, []int{correct, correct, correct, correct}, 15, api.Tally{Good: 4}, api.OK},
		{3, 15, 0, []int{noAck, noAck, noAck}, 7, api.Tally{Good: 3}, api.OK},
		{3, 15, 0, []int{0, 0, 0, 0}, 8, api.Tally{}, api.OK},
		// As many as there are nodes, and no more.
		{3, 15, 0, []int{0, 0, 0, 0, 0}, 0, api.Tally{}, api.ErrArg},
		{3, 15, 0, []int{1, 1, 1, 1, 1, 1, 1, 1, 1, 1, 1, 1, 1, 1, 1, 1, 1}, 0, api.Tally{}, api.ErrArg},
		// A verdict that is none, at each place.
		{1, 15, 0, []int{4, 1, 1, 1}, 0, api.Tally{}, api.ErrArg},
		{1, 15, 0, []int{1, 4, 1, 1}, 0, api.Tally{}, api.ErrArg},
		{1, 15, 0, []int{1, 1, 1, -1}, 0, api.Tally{}, api.ErrArg},
		// Up to the last slot, and not behind it.
		{1, 2, 4294967295, []int{correct, correct}, 11, api.Tally{Good: 2}, api.OK},
		{1, 2, 4294967296, []int{correct}, 3, api.Tally{Good: 1}, api.OK},
		{1, 2, 4294967296, nil, 2, api.Tally{}, api.OK},
		{1, 2, 4294967295, []int{correct, correct, correct}, 0, api.Tally{}, api.ErrArg},
		{1, 2, 4294967296, []int{correct, correct}, 0, api.Tally{}, api.ErrArg},
		{1, 2, 4294967297, nil, 0, api.Tally{}, api.ErrArg},
		{4, 2, 0, nil, 0, api.Tally{}, api.ErrArg},
		{-1, 2, 0, nil, 0, api.Tally{}, api.ErrArg},
	} {
		given := slices.Clone(x.l)
		own, tally, e := Round(four, x.me, x.own, x.slot, x.l...)
		if own != x.want || tally != x.tally || e != x.e {
			t.Errorf("%d: got %b, %v, %d, not %b, %v, %d", i, own, tally, e, x.want, x.tally, x.e)
		}
		if !slices.Equal(given, x.l) {
			t.Errorf("%d: the list is now %v", i, x.l)
		}
	}
}

func compareRound(t *testing.T, m api.Medl, me int, own uint16, slot uint64, l []int) {
	t.Helper()
	want, tally, f := own, api.Tally{}, api.OK
	for i, verdict := range l {
		if len(l) > m.Nodes || slot+uint64(i) > maxSlots || verdict < null || verdict > wrong {
			want, tally, f = 0, api.Tally{}, api.ErrArg
			break
		}
		want = behind(m, me, want, slot+uint64(i), verdict)
		tally, _ = counted(tally, verdict)
	}
	got, gotTally, e := Round(m, me, own, slot, l...)
	if got != want || gotTally != tally || e != f {
		t.Errorf("%d nodes, node %d of %b from slot %d on, %v: got %b, %v, %d, not %b, %v, %d",
			m.Nodes, me, own, slot, l, got, gotTally, e, want, tally, f)
	}
}

// lists are all lists of no to so many verdicts, and one that is none.
func lists(many int) [][]int {
	all := [][]int{nil}
	for from := 0; many > 0; many-- {
		to := len(all)
		for _, l := range all[from:to] {
			for verdict := null; verdict <= wrong+1; verdict++ {
				all = append(all, append(slices.Clone(l), verdict))
			}
		}
		from = to
	}
	return all
}

func TestRoundOfAllSmall(t *testing.T) {
	all := lists(4)
	for nodes := 2; nodes <= 3; nodes++ {
		for me := range nodes {
			for own := range uint16(1) << nodes {
				for _, slot := range []uint64{0, 1, 2, 5, maxSlots - 1, maxSlots} {
					for _, l := range all {
						compareRound(t, of(nodes), me, own, slot, l)
					}
				}
			}
		}
	}
}

func TestRoundOfDrawn(t *testing.T) {
	for l := drawn.Numbers(5*5000, 11); len(l) > 0; l = l[5:] {
		m := of(2 + int(l[0]%15))
		verdicts := make([]int, l[1]%uint64(m.Nodes+2))
		for i := range verdicts {
			verdicts[i] = int(l[2] >> (2 * i) % 4)
		}
		slot := l[3] % (maxSlots + 1)
		if l[3]>>40%4 == 0 {
			slot = maxSlots - l[3]%20
		}
		compareRound(t, m, int(l[4]%uint64(m.Nodes)), uint16(l[4]>>8), slot, verdicts)
	}
}

// As many verdicts as nodes are taken of each schedule, and one more is not.
func TestRoundOfAsManyAsNodes(t *testing.T) {
	for nodes := 2; nodes <= maxNodes; nodes++ {
		l := slices.Repeat([]int{correct}, nodes+1)
		if own, tally, e := Round(of(nodes), 0, 0, 3, l[1:]...); int(own) != 1<<nodes-1 || tally != (api.Tally{Good: nodes}) || e != api.OK {
			t.Errorf("%d nodes: got %b, %v, %d", nodes, own, tally, e)
		}
		if own, tally, e := Round(of(nodes), 0, 0, 3, l...); own != 0 || tally != (api.Tally{}) || e != api.ErrArg {
			t.Errorf("%d nodes and one: got %b, %v, %d", nodes, own, tally, e)
		}
	}
}
