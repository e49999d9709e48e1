package member

import (
	"testing"

	"pallet/api"
	"pallet/drawn"
)

// P10.4

func judge(t *testing.T, m api.Medl, me int, own uint16, slot uint64, f api.Frame) int {
	t.Helper()
	v, e := Judge(m, me, own, slot, f)
	if e != api.OK {
		t.Fatalf("Judge: got %d", e)
	}
	return v
}

// framesOf are frames of all senders and members that so many nodes may have, of the slot and of the next one.
func framesOf(nodes int, slot uint64) []api.Frame {
	var l []api.Frame
	for from := range nodes {
		for members := range uint16(1) << nodes {
			for _, at := range []uint64{slot, slot + 1} {
				l = append(l, api.Frame{Kind: 1, From: from, Slot: at, Members: members})
			}
		}
	}
	return l
}

// misses tells whether a frame names those who are to be there, but for one node.
func misses(node int, own uint16, f api.Frame) bool {
	there := crowdOf(own).with(f.From)
	return there[node] && f.From != node && crowdOf(f.Members) == there.without(node)
}

// Two nodes that have the same members judge each frame alike; but where just one of the two is missed, that one alone says so.
func TestSameMembersJudgeAlike(t *testing.T) {
	for nodes := 2; nodes <= 4; nodes++ {
		m := of(nodes)
		for slot := range uint64(nodes) {
			for _, f := range framesOf(nodes, slot) {
				for own := range uint16(1) << nodes {
					for a := range nodes {
						for b := range nodes {
							alike(t, m, a, b, own, slot, f)
						}
					}
				}
			}
		}
	}
}

func alike(t *testing.T, m api.Medl, a, b int, own uint16, slot uint64, f api.Frame) {
	t.Helper()
	v, w := judge(t, m, a, own, slot, f), judge(t, m, b, own, slot, f)
	if v == w {
		return
	}
	if v == wrong {
		a, b, v, w = b, a, w, v
	}
	if v != noAck || w != wrong || !misses(a, own, f) {
		t.Errorf("of %b, slot %d, %v: node %d says %d, node %d says %d", own, slot, f, a, v, b, w)
	}
}

// Two nodes whose members are the same, but that each has itself, too, judge alike each frame that names neither: as one that did not hear them.
func TestSameButForThemselvesJudgeAlike(t *testing.T) {
	for nodes := 3; nodes <= 5; nodes++ {
		m := of(nodes)
		for slot := range uint64(nodes) {
			for _, f := range framesOf(nodes, slot) {
				named := crowdOf(f.Members)
				for others := range uint16(1) << nodes {
					for a := range nodes {
						for b := range a {
							c := crowdOf(others)
							if c[a] || c[b] || named[a] || named[b] || f.From == a || f.From == b {
								continue
							}
							v := judge(t, m, a, c.with(a).members(), slot, f)
							w := judge(t, m, b, c.with(b).members(), slot, f)
							if v != w || v == correct {
								t.Errorf("of %b, slot %d, %v: node %d says %d, node %d says %d", others, slot, f, a, v, b, w)
							}
						}
					}
				}
			}
		}
	}
}

// cluster is each node's own members.
type cluster []uint16

func (c cluster) after(t *testing.T, m api.Medl, me int, slot uint64, verdict int) uint16 {
	t.Helper()
	own, e := After(m, me, c[me], slot, verdict)
	if e != api.OK {
		t.Fatalf("After: got %d", e)
	}
	return own
}

// play is one slot: its owner sends who it thinks is there, with itself, and is heard by all others, or by none.
func (c cluster) play(t *testing.T, m api.Medl, slot uint64, heard bool) {
	t.Helper()
	owner := whose(m, slot)
	f := api.Frame{Kind: 1, From: owner, Slot: slot, Members: crowdOf(c[owner]).with(owner).members()}
	for me := range c {
		verdict := null
		if heard && me != owner {
			verdict = judge(t, m, me, c[me], slot, f)
		}
		if verdict == wrong {
			t.Errorf("slot %d, %v: node %d of %b judges it wrong", slot, f, me, c[me])
		}
		c[me] = c.after(t, m, me, slot, verdict)
	}
}

// round is a round from a slot on, in which the senders are heard: at its end they are members of all, and nobody else is one, but of itself.
func (c cluster) round(t *testing.T, m api.Medl, slot uint64, senders uint16) {
	t.Helper()
	heard := crowdOf(senders)
	before := append(cluster(nil), c...)
	for range m.Nodes {
		c.play(t, m, slot, heard[whose(m, slot)])
		slot++
	}
	for me, own := range c {
		theirs, want := crowdOf(own), heard
		if want[me] = theirs[me]; heard[me] && !theirs[me] || theirs != want {
			t.Errorf("from %b on, %b heard: node %d has %b", before, senders, me, own)
		}
	}
}

func sameCluster(nodes int, own uint16) cluster {
	c := make(cluster, nodes)
	for me := range c {
		c[me] = own
	}
	return c
}

func TestWhoIsHeardByAllIsAMemberOfAll(t *testing.T) {
	for nodes := 2; nodes <= 4; nodes++ {
		m := of(nodes)
		for own := range uint16(1) << nodes {
			for first := range uint16(1) << nodes {
				for second := range uint16(1) << nodes {
					for slot := range uint64(nodes) {
						c := sameCluster(nodes, own)
						c.round(t, m, slot, first)
						c.round(t, m, slot+uint64(nodes), second)
					}
				}
			}
		}
	}
}

func TestWhoIsHeardByAllOfMany(t *testing.T) {
	for l := drawn.Numbers(4*500, 12); len(l) > 0; l = l[4:] {
		m := of(2 + int(l[0]%15))
		most := uint16(1<<m.Nodes - 1)
		c := sameCluster(m.Nodes, uint16(l[1])&most)
		slot := l[0] >> 22
		for i := range uint64(6) {
			senders := uint16(l[2]>>(4*i)|l[3]>>(3*i)) & most
			c.round(t, m, slot+i*uint64(m.Nodes), senders)
		}
	}
}

// Nodes of which each thinks that it is there alone, or with the same others, come to the same members.
func TestNodesAloneComeTogether(t *testing.T) {
	for nodes := 2; nodes <= maxNodes; nodes++ {
		m := of(nodes)
		for _, others := range manyMembers() {
			others &= uint16(1<<nodes - 1)
			c := sameCluster(nodes, others)
			for me := range c {
				c[me] = crowdOf(others).with(me).members()
			}
			c.round(t, m, uint64(nodes/2), uint16(1<<nodes-1))
			for me, own := range c {
				if int(own) != 1<<nodes-1 {
					t.Errorf("%d nodes, of %b: node %d has %b", nodes, others, me, own)
				}
			}
		}
	}
}

// A node that was silent for rounds is no member, and is one again when it sends.
func TestWhoSendsAgainIsAMemberAgain(t *testing.T) {
	for nodes := 2; nodes <= maxNodes; nodes++ {
		m, most := of(nodes), uint16(1<<nodes-1)
		for node := range nodes {
			c := sameCluster(nodes, most)
			silent := crowdOf(most).without(node).members()
			c.round(t, m, 0, silent)
			c.round(t, m, uint64(nodes), silent)
			for me, own := range c {
				if me != node && own != silent {
					t.Errorf("%d nodes, %d silent: node %d has %b", nodes, node, me, own)
				}
			}
			c.round(t, m, uint64(2*nodes), most)
			for me, own := range c {
				if own != most {
					t.Errorf("%d nodes, %d sends again: node %d has %b", nodes, node, me, own)
				}
			}
		}
	}
}

// Behind a whole round who is a member hangs on the round's verdicts alone: who was heard, and oneself, unless somebody later did not hear one.
func TestAWholeRoundTellsWhoIsThere(t *testing.T) {
	for nodes := 2; nodes <= 4; nodes++ {
		for _, l := range lists(nodes) {
			for me := range nodes {
				for slot := range uint64(nodes) {
					for own := range uint16(1) << nodes {
						wholeRound(t, of(nodes), me, own, slot, l)
					}
				}
			}
		}
	}
}

func wholeRound(t *testing.T, m api.Medl, me int, own uint16, slot uint64, l []int) {
	t.Helper()
	var want crowd
	for i, verdict := range l {
		if verdict > wrong {
			return
		}
		node := whose(m, slot+uint64(i))
		want[node] = node == me || verdict == correct || verdict == noAck
		if node != me && verdict == noAck {
			want[me] = false
		}
	}
	if got, _, e := Round(m, me, own, slot, l...); len(l) == m.Nodes && (got != want.members() || e != api.OK) {
		t.Errorf("node %d of %b, from slot %d on, %v: got %b, %d, not %b", me, own, slot, l, got, e, want.members())
	}
}
