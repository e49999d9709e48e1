package medium

import (
	"slices"
	"testing"

	"pallet/api"
	"pallet/drawn"
)

// P11.4

// garbled are, of things that are all there, those that meet another one, each by a picosecond in which both last.
func garbled(l []api.Air, last int64) []bool {
	which := make([]bool, len(l))
	for i, x := range l {
		for j, y := range l {
			for at := range last {
				if i != j && x.Chan == y.Chan && lastsAt(x, at) && lastsAt(y, at) {
					which[i] = true
				}
			}
		}
	}
	return which
}

// Whoever is launched first, what meets is garbled, and nothing else.
func TestWhatMeetsIsGarbledInAnyOrder(t *testing.T) {
	const last = 4
	var shapes []api.Air
	for ch := range 2 {
		for at := range int64(last) {
			for end := at + 1; end <= last; end++ {
				shapes = append(shapes, short(0, ch, at, end))
			}
		}
	}
	for _, a := range shapes {
		for _, b := range shapes {
			for _, c := range shapes {
				given := []api.Air{a, b, c}
				var l []api.Air
				for i, x := range given {
					x.Id = uint64(i)
					l, _ = Launch(l, x)
				}
				for i, want := range garbled(given, last) {
					if len(l) != 3 || l[i].Bad != want {
						t.Fatalf("%v: got %v", plainly(given), plainly(l))
					}
				}
			}
		}
	}
}

// A thing is heard as often as it says, and then it is not there any more; others come and go meanwhile.
func TestAThingIsThereAsOftenAsItIsToBeHeard(t *testing.T) {
	for often := 1; often <= nodes; often++ {
		x := thing(100)
		x.Left = often
		l, _ := Launch(row(5), x)
		for i := range often {
			other := short(uint64(200+i), 1, 0, 1)
			l, _ = Launch(l, other)
			left, y, e := Heard(l, 100)
			if x.Left = often - i; e != api.OK || plainOf(y) != plainOf(x) {
				t.Fatalf("%d times, %d: got %v, %d", often, i, plainOf(y), e)
			}
			if _, is := Find(left, 100); is != (i < often-1) {
				t.Errorf("%d times, %d: there %v", often, i, is)
			}
			if l, _, e = Heard(left, other.Id); e != api.OK {
				t.Errorf("%d times, %d: got %d", often, i, e)
			}
		}
		if _, _, e := Heard(l, 100); e != api.ErrNone || !equal(l, row(5)) {
			t.Errorf("%d times: got %v, %d", often, plainly(l), e)
		}
	}
}

// story is what was told of a thing that was launched: itself, whether it is garbled, and how often it was heard.
type story struct {
	x     api.Air
	bad   bool
	heard int
}

func (s story) there() bool { return s.heard < s.x.Left }

// now is what the channels must have on them by the stories alone.
func now(l []story) []api.Air {
	var all []api.Air
	for _, s := range l {
		if s.there() {
			x := s.x
			x.Bad, x.Left = s.bad, s.x.Left-s.heard
			all = append(all, x)
		}
	}
	return all
}

// launchInto tells a thing more, and of whom it meets that is there.
func launchInto(l []story, x api.Air) []story {
	s := story{x: x, bad: x.Bad}
	for i, other := range l {
		if other.there() && meet(other.x, x) {
			l[i].bad, s.bad = true, true
		}
	}
	return append(l, s)
}

// Things are launched and heard as it comes: what is on the channels is what their stories tell, of all parts.
func TestWhateverComesBetween(t *testing.T) {
	for from := range uint64(20) {
		var stories []story
		var l []api.Air
		for i, n := range drawn.Numbers(600, from) {
			id := uint64(i)
			if n>>50%3 == 0 || len(l) == 0 {
				x := drawnThing(id, n)
				stories = launchInto(stories, x)
				var e api.Errno
				if l, e = Launch(l, x); e != api.OK {
					t.Fatalf("row %d, %d: got %d", from, i, e)
				}
			} else {
				want := l[n>>30%uint64(len(l))]
				at := slices.IndexFunc(stories, func(s story) bool { return s.x.Id == want.Id })
				stories[at].heard++
				left, x, e := Heard(l, want.Id)
				if l = left; e != api.OK || plainOf(x) != plainOf(want) {
					t.Fatalf("row %d, %d: got %v, %d, not %v", from, i, plainOf(x), e, plainOf(want))
				}
			}
			if !equal(l, now(stories)) || Check(l...) != api.OK {
				t.Fatalf("row %d, %d: got %v, not %v", from, i, plainly(l), plainly(now(stories)))
			}
		}
	}
}

// What has left the channels garbles nothing, and nobody is garbled by what did not come on.
func TestWhatIsNotThereGarblesNothing(t *testing.T) {
	a, b := short(1, 0, 0, 10), short(2, 0, 5, 15)
	l, _ := Launch(nil, a)
	l, _, _ = Heard(l, 1)
	if l, e := Launch(l, b); e != api.OK || len(l) != 1 || l[0].Bad {
		t.Errorf("got %v, %d", plainly(l), e)
	}
	l, _ = Launch(nil, b)
	if more, e := Launch(l, a); more != nil || e != api.ErrArg || l[0].Bad {
		t.Errorf("got %v, %d, and %v", plainly(more), e, plainly(l))
	}
	full := row(256)
	if more, e := Launch(full, short(5000, 0, 0, 1000)); more != nil || e != api.ErrFull || !equal(full, row(256)) {
		t.Errorf("got %v, %d", plainly(more), e)
	}
}

// As many as may be are on the channels, one by one, and when one has left there is room again.
func TestTheChannelsAreFilled(t *testing.T) {
	var l []api.Air
	for i := range uint64(maxAirs) {
		var e api.Errno
		if l, e = Launch(l, short(i, int(i%2), int64(i), int64(i)+1)); e != api.OK {
			t.Fatalf("%d: got %d", i, e)
		}
	}
	x := short(maxAirs, 0, 0, 1)
	if more, e := Launch(l, x); more != nil || e != api.ErrFull {
		t.Errorf("got %d, %d", len(more), e)
	}
	left, _, e := Heard(l, 77)
	if e != api.OK || len(left) != maxAirs-1 {
		t.Errorf("got %d, %d", len(left), e)
	}
	if more, e := Launch(left, x); len(more) != maxAirs || e != api.OK || !more[0].Bad || more[2].Bad {
		t.Errorf("got %d, %d", len(more), e)
	}
}

// Whoever hears a thing hears it as long as it lasted, and not ahead of when it began.
func TestWhatArrivesLastsAsLong(t *testing.T) {
	d := far(nodes)
	for i, n := range drawn.Numbers(200, 41) {
		x := drawnThing(uint64(i), n)
		for to := range nodes {
			at, end, e := Arrive(x, to, d...)
			if to == x.From {
				continue
			}
			if e != api.OK || at < x.At || end-at != x.End-x.At {
				t.Errorf("%v to %d: got %d, %d, %d", plainOf(x), to, at, end, e)
			}
		}
	}
}
