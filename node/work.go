package node

import (
	"pallet/api"
	"pallet/frame"
	"pallet/fta"
	"pallet/medl"
	"pallet/member"
	"pallet/osc"
	"pallet/pico"
)

// work is a node at work: what it becomes, by its schedule, and what it asks for and tells.
// It may be at each step, and no more than 62 slots' ticks are asked for, which are less than 2^56 picoseconds: of what it has the layers below have no error, but pico, when a time goes over.
type work struct {
	api.Node
	m    api.Medl
	acts []api.Act
}

// listen listens so long that a node that sends would be heard: each node for a different time, lest two start at once.
func (w *work) listen(now int64) api.Errno {
	w.Phase, w.Start = api.ListenP, now
	w.note(api.WakeN, 0)
	return w.timer(2 * int64(w.m.Nodes+w.Id) * w.m.Slot)
}

// start starts alone, in a slot of its own.
func (w *work) start(now int64) api.Errno {
	w.Node = api.Node{
		Id: w.Id, Phase: api.ActiveP, Slot: uint64(w.Id), Start: now, Osc: w.Osc,
		Members: frame.With(0, w.Id), T: oneGood(),
	}
	w.note(api.ColdN, 0)
	return w.timer(w.m.Lead)
}

// send sends in a slot of its own.
func (w *work) send() api.Errno {
	w.Sent, w.Members = true, frame.With(w.Members, w.Id)
	f := api.Frame{Kind: api.NormalF, From: w.Id, Slot: w.Slot, Members: w.Members}
	if frame.Count(w.Members) == 1 {
		f.Kind = api.ColdF
	}
	w.acts = append(w.acts, api.Act{Kind: api.SendA, F: f})
	w.note(api.SendN, int64(w.Slot))
	return w.timer(w.length())
}

// end ends its slot, and begins the next one.
func (w *work) end() api.Errno {
	if w.Slot == api.MaxSlots {
		return api.ErrOver
	}
	next, left, e := w.time(w.length())
	if e != api.OK {
		return e
	}
	w.leave()
	w.sync()
	w.Slot, w.Start, w.Osc = w.Slot+1, next, left
	return w.begin()
}

// leave takes in who is there behind its slot.
func (w *work) leave() {
	owner := w.owner()
	if owner != w.Id && frame.Has(w.Members, owner) && w.Verdict == api.NullV {
		w.note(api.NullN, int64(owner))
	}
	w.Members, _ = member.After(w.m, w.Id, w.Members, w.Slot, w.Verdict)
	if owner == w.Id {
		w.late(0)
	}
}

// sync corrects its clock, if its slot was the last one of a round.
func (w *work) sync() {
	w.Corr = 0
	if last, _ := medl.Last(w.m, w.Slot); last {
		w.Corr, _ = fta.Correct(w.m.Window, w.Devs...)
		w.Devs = nil
		w.note(api.SyncN, w.Corr)
	}
}

// begin begins a slot; ahead of sending it halts, if most frames since it sent last were wrong.
func (w *work) begin() api.Errno {
	w.Sent, w.Verdict = false, api.NullV
	if w.owner() != w.Id {
		return w.timer(w.length())
	}
	if member.Clique(w.T) {
		w.Phase = api.FrozenP
		w.note(api.FreezeN, 0)
		return api.OK
	}
	w.T = oneGood()
	return w.timer(w.m.Lead)
}

// join takes its slot, and who is there, from a frame of a slot that is not over.
func (w *work) join(f api.Frame, now, began int64) api.Errno {
	if owner, _ := medl.Owner(w.m, f.Slot); owner != f.From {
		return api.OK
	}
	lead, _, _ := osc.Run(w.Osc, w.m.Lead)
	length, _, _ := osc.Run(w.Osc, w.m.Slot)
	start := began - lead
	if start < 0 || start+length <= now {
		return api.OK
	}
	w.Node = api.Node{
		Id: w.Id, Phase: api.ActiveP, Slot: f.Slot, Start: start, Osc: w.Osc,
		Members: frame.Without(frame.With(f.Members, f.From), w.Id),
		T:       oneGood(), Devs: []int64{0}, Verdict: api.CorrectV,
	}
	w.note(api.JoinN, int64(f.Slot))
	return w.timer(w.m.Slot)
}

// judge judges a frame in another node's slot, if it is the first one that begins in time there.
func (w *work) judge(f api.Frame, began int64) {
	if w.owner() == w.Id || w.Verdict != api.NullV || began < w.Start {
		return
	}
	ticks, _ := osc.Ticks(w.Osc, began-w.Start)
	late, in, _ := medl.Off(w.m, ticks)
	if !in {
		w.note(api.OddN, late)
		return
	}
	w.Verdict, _ = member.Judge(w.m, w.Id, w.Members, w.Slot, f)
	w.T, _ = member.Count(w.T, w.Verdict)
	switch w.Verdict {
	case api.WrongV:
		w.note(api.WrongN, int64(f.From))
		return
	case api.NoAckV:
		w.note(api.NoAckN, int64(f.From))
	}
	w.late(late)
}

// owner is whose its slot is.
func (w *work) owner() int {
	owner, _ := medl.Owner(w.m, w.Slot)
	return owner
}

// length is how many ticks its slot has, as it is corrected.
func (w *work) length() int64 { return w.m.Slot + w.Corr }

// time is its time of so many ticks, and its clock then.
func (w *work) time(ticks int64) (int64, api.Osc, api.Errno) {
	ps, left, _ := osc.Run(w.Osc, ticks)
	at, e := pico.Add(w.Start, ps)
	return at, left, e
}

// timer asks for it to be woken at its time of so many ticks.
func (w *work) timer(ticks int64) api.Errno {
	at, _, e := w.time(ticks)
	w.acts = append(w.acts, api.Act{Kind: api.TimerA, At: at})
	return e
}

// note tells a note of that kind.
func (w *work) note(kind int, b int64) {
	w.acts = append(w.acts, api.Act{Kind: api.NoteA, A: kind, B: b})
}

// late takes in by how many ticks a frame was late, as far as there is room.
func (w *work) late(ticks int64) {
	if len(w.Devs) < w.m.Nodes {
		w.Devs = append(w.Devs, ticks)
	}
}

// oneGood is a tally of a frame of its own, or of the one by which it joined.
func oneGood() api.Tally { return api.Tally{Good: 1} }
