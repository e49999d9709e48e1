package node

import (
	"slices"
	"testing"

	"pallet/api"
	"pallet/frame"
)

// P13.5

// play is a node that goes on, call by call, and what it did and told on its way.
type play struct {
	t    *testing.T
	m    api.Medl
	n    api.Node
	at   int64
	acts []api.Act
}

// take takes an answer in, and tells whether there was an error.
func (p *play) take(n api.Node, acts []api.Act, e api.Errno) bool {
	p.t.Helper()
	if e == api.ErrArg || Check(p.m, n) != api.OK {
		p.t.Fatalf("%v, %v: got %v, %v, %d", p.m, p.n, n, acts, e)
	}
	p.n, p.acts = n, append(p.acts, acts...)
	for _, act := range acts {
		if act.Kind == api.TimerA {
			p.at = act.At
		}
	}
	return e != api.OK
}

func (p *play) wake(now int64) bool  { return p.take(Wake(p.m, p.n, now)) }
func (p *play) timer(now int64) bool { return p.take(Timer(p.m, p.n, now)) }

func (p *play) hear(now, began int64, b []byte, bad bool) bool {
	return p.take(Hear(p.m, p.n, now, began, b, bad))
}

// sent are the frames that it sent, one behind the other.
func (p *play) sent() []api.Frame {
	var l []api.Frame
	for _, act := range p.acts {
		if act.Kind == api.SendA {
			l = append(l, act.F)
		}
	}
	return l
}

// told is what notes of a kind told.
func (p *play) told(kind int) []int64 {
	var l []int64
	for _, act := range p.acts {
		if act.Kind == api.NoteA && act.A == kind {
			l = append(l, act.B)
		}
	}
	return l
}

func text(t *testing.T, f api.Frame) []byte {
	t.Helper()
	b, e := frame.Write(f)
	if e != api.OK {
		t.Fatalf("Write(%v): got %d", f, e)
	}
	return b
}

// A node that is off is woken by nothing that it hears, and one that is frozen by nothing at all.
func TestOneThatIsFrozenOrOffSaysNothing(t *testing.T) {
	r := &row{from: 5}
	for range 2000 {
		m := r.schedule()
		for _, phase := range []int{off, frozen} {
			n := r.node(m, phase)
			p := &play{t: t, m: m, n: n}
			for range 10 {
				now := r.below(maxTime)
				p.timer(now)
				p.hear(now, r.below(now+1), text(t, r.drawnFrame(m, n)), r.below(4) == 0)
				if phase == frozen {
					p.wake(now)
				}
			}
			if len(p.acts) != 0 || !equal(p.n, n) {
				t.Errorf("%v, %v: got %v, %v", m, n, p.n, p.acts)
			}
		}
	}
}

// started is a node that was woken, heard nobody, and starts.
func started(t *testing.T, r *row, m api.Medl) *play {
	t.Helper()
	n, e := New(m, int(r.below(int64(m.Nodes))), r.clock())
	p := &play{t: t, m: m, n: n}
	if e != api.OK || p.wake(r.below(1000000)) || p.timer(p.at) || p.n.Phase != active {
		t.Fatalf("%v, %v: got %v, %v", m, n, p.n, p.acts)
	}
	return p
}

// Alone, or with others that say anything, a node that is active sends once a round, and in its own slots.
func TestAnActiveOneSendsOnceARound(t *testing.T) {
	r := &row{from: 6}
	froze := 0
	for range 600 {
		m := r.schedule()
		p := started(t, r, m)
		others := r.below(2) == 0
		first := p.n.Slot
		for p.n.Phase == active && p.n.Slot < first+6*uint64(m.Nodes) {
			began, now := r.drawnTimes(m, p.n)
			if others && p.hear(now, began, text(t, r.drawnFrame(m, p.n)), r.below(9) == 0) || p.timer(p.at) {
				t.Fatalf("%v, %v: it goes over", m, p.n)
			}
		}
		for i, f := range p.sent() {
			if want := first + uint64(i*m.Nodes); f.Slot != want || f.From != p.n.Id || whose(m, f.Slot) != p.n.Id {
				t.Errorf("%v, node %d: frame %d is %v, not of slot %d", m, p.n.Id, i, f, want)
			}
		}
		if rounds := int(p.n.Slot-first) / m.Nodes; len(p.sent()) != rounds || len(p.told(sendNote)) != rounds {
			t.Errorf("%v, node %d: from slot %d to %d it sent %v", m, p.n.Id, first, p.n.Slot, p.sent())
		}
		if p.n.Phase == frozen {
			froze++
		}
	}
	// Others that say anything may freeze it, and may not.
	if froze < 20 || froze > 580 {
		t.Errorf("%d of 600 froze", froze)
	}
}

// A timer comes when its slot is over, or its frame is due: never ahead of its slot's beginning, and its time never goes back.
func TestTimeGoesOn(t *testing.T) {
	r := &row{from: 7}
	for range 300 {
		m := r.schedule()
		p := started(t, r, m)
		for range 8 * m.Nodes {
			before, start := p.at, p.n.Start
			if p.timer(p.at); p.at < before || p.n.Start < start || p.at < p.n.Start {
				t.Errorf("%v: from %d, %d to %v, %d", m, before, start, p.n, p.at)
			}
		}
	}
}

// aside are things that a node passes over: garbled ones, its own, what is no frame, and being woken again.
func (p *play) aside(r *row) {
	p.t.Helper()
	f := r.drawnFrame(p.m, p.n)
	b := text(p.t, f)
	began, now := r.drawnTimes(p.m, p.n)
	acts := len(p.acts)
	p.hear(now, began, b, true)
	p.hear(now, began, b[:len(b)-1], false)
	p.hear(now, began, nil, false)
	f.From = p.n.Id
	p.hear(now, began, text(p.t, f), false)
	p.wake(now)
	if len(p.acts) != acts {
		p.t.Errorf("%v, %v: got %v", p.m, p.n, p.acts[acts:])
	}
}

// Of two nodes that heard the same, at the same times, all is the same, whatever they passed over, and whatever another one did meanwhile.
func TestWhatANodeIsHangsOnWhatItHeard(t *testing.T) {
	r := &row{from: 8}
	for range 300 {
		m := r.schedule()
		a := started(t, r, m)
		b := &play{t: t, m: m, n: changed(a.n, func(*api.Node) {}), at: a.at, acts: slices.Clone(a.acts)}
		stranger := started(t, r, m)
		for range 5 * m.Nodes {
			began, now := r.drawnTimes(m, a.n)
			f, garbled := text(t, r.drawnFrame(m, a.n)), r.below(4) == 0
			a.hear(now, began, f, garbled)
			a.timer(a.at)
			b.aside(r)
			stranger.hear(now, began, f, false)
			b.hear(now, began, f, garbled)
			b.aside(r)
			stranger.timer(stranger.at)
			b.timer(b.at)
			if !equal(a.n, b.n) || !slices.Equal(a.acts, b.acts) || a.at != b.at {
				t.Fatalf("%v: got %v, and %v", m, a.n, b.n)
			}
		}
	}
}

// An earlier answer is not changed by later calls, and one and the same node may go on in two ways.
func TestOneNodeGoesOnInTwoWays(t *testing.T) {
	r := &row{from: 9}
	for range 2000 {
		m := r.schedule()
		n := r.node(m, active)
		// With room behind its list both ways might write there.
		n.Devs = append(make([]int64, 0, 64), n.Devs...)
		before := changed(n, func(*api.Node) {})
		began, now := r.drawnTimes(m, n)
		f := r.drawnFrame(m, n)
		first, acts, _ := Hear(m, n, now, began, text(t, f), false)
		kept, keptActs := changed(first, func(*api.Node) {}), slices.Clone(acts)
		Hear(m, n, now, max(0, began-n.Osc.Period), text(t, f), false)
		Timer(m, n, now)
		Timer(m, first, now)
		Hear(m, first, now, began, text(t, f), false)
		if !equal(n, before) || !equal(first, kept) || !slices.Equal(acts, keptActs) {
			t.Errorf("%v: got %v, %v, not %v, %v", m, first, acts, kept, keptActs)
		}
	}
}
