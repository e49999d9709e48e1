package medium

import (
	"math"
	"slices"
	"testing"

	"pallet/api"
	"pallet/drawn"
)

// meet tells whether two meet, by the chapter's own words.
func meet(a, b api.Air) bool {
	aheadOf := func(x, y api.Air) bool { return x.At < y.End }
	return a.Chan == b.Chan && aheadOf(a, b) && aheadOf(b, a)
}

// launched is what Launch must answer, by the chapter's own words.
func launched(l []api.Air, x api.Air) ([]api.Air, api.Errno) {
	if !listMayBe(l) || !mayBe(x) {
		return nil, api.ErrArg
	}
	for _, y := range l {
		if x.Id <= y.Id {
			return nil, api.ErrArg
		}
	}
	if len(l) == maxAirs {
		return nil, api.ErrFull
	}
	all := append(copied(l), copied([]api.Air{x})...)
	last := len(all) - 1
	for i := range last {
		if meet(all[i], all[last]) {
			all[i].Bad, all[last].Bad = true, true
		}
	}
	return all, api.OK
}

// heard is what Heard must answer, by the chapter's own words.
func heard(l []api.Air, id uint64) ([]api.Air, api.Air, api.Errno) {
	if !listMayBe(l) {
		return nil, api.Air{}, api.ErrArg
	}
	for i, x := range l {
		if x.Id != id {
			continue
		}
		others := copied(l)
		if x.Left == 1 {
			return append(others[:i:i], others[i+1:]...), x, api.OK
		}
		others[i].Left = x.Left - 1
		return others, x, api.OK
	}
	return nil, api.Air{}, api.ErrNone
}

// compareLaunch tells what was launched, if nothing is wrong.
func compareLaunch(t *testing.T, l []api.Air, x api.Air) []api.Air {
	t.Helper()
	was, thingWas := copied(l), copied([]api.Air{x})
	want, f := launched(l, x)
	got, e := Launch(l, x)
	if e != f || !equal(got, want) || e != api.OK && got != nil {
		t.Errorf("%v, and %v: got %v, %d, not %v, %d", plainly(l), plainOf(x), plainly(got), e, plainly(want), f)
	}
	if !equal(l, was) || !equal([]api.Air{x}, thingWas) {
		t.Errorf("%v, and %v: what was handed in is changed", plainly(was), plainly(thingWas))
	}
	return got
}

func compareHeard(t *testing.T, l []api.Air, id uint64) []api.Air {
	t.Helper()
	was := copied(l)
	want, wantThing, f := heard(l, id)
	got, x, e := Heard(l, id)
	if e != f || !equal(got, want) || plainOf(x) != plainOf(wantThing) || e != api.OK && (got != nil || !none(x)) {
		t.Errorf("%v, %d: got %v, %v, %d, not %v, %v, %d", plainly(l), id, plainly(got), plainOf(x), e, plainly(want), plainOf(wantThing), f)
	}
	if !equal(l, was) {
		t.Errorf("%v, %d: what was handed in is changed", plainly(was), id)
	}
	return got
}

// P11.2

func TestLaunchByHand(t *testing.T) {
	first, second := short(1, 0, 0, 10), short(2, 0, 5, 15)
	for i, x := range []struct {
		l    []api.Air
		x    api.Air
		want []bool
		e    api.Errno
	}{
		{nil, first, []bool{false}, api.OK},
		{[]api.Air{}, first, []bool{false}, api.OK},
		// The chapter's example: both are garbled; from 10 on, none.
		{[]api.Air{first}, second, []bool{true, true}, api.OK},
		{[]api.Air{first}, short(2, 0, 10, 15), []bool{false, false}, api.OK},
		{[]api.Air{first}, short(2, 1, 5, 15), []bool{false, false}, api.OK},
		// One that begins earlier, and ends there, or later.
		{[]api.Air{second}, short(3, 0, 0, 5), []bool{false, false}, api.OK},
		{[]api.Air{second}, short(3, 0, 0, 6), []bool{true, true}, api.OK},
		// The one that it meets alone, not those that it is between.
		{[]api.Air{first, short(2, 0, 10, 20), short(3, 0, 20, 30)}, short(4, 0, 12, 18), []bool{false, true, false, true}, api.OK},
		{[]api.Air{first, short(2, 0, 10, 20), short(3, 0, 20, 30)}, short(4, 0, 9, 21), []bool{true, true, true, true}, api.OK},
		{[]api.Air{first, short(2, 1, 0, 10), short(3, 0, 10, 20)}, short(4, 0, 5, 10), []bool{true, false, false, true}, api.OK},
		// Two that meet already, and are none the less not Bad, are left as they are.
		{[]api.Air{first, second}, short(3, 0, 15, 16), []bool{false, false, false}, api.OK},
		// What was Bad stays so, and makes nothing Bad.
		{[]api.Air{bad(first)}, short(2, 0, 10, 15), []bool{true, false}, api.OK},
		{[]api.Air{first}, bad(short(2, 0, 10, 15)), []bool{false, true}, api.OK},
		{[]api.Air{first}, bad(second), []bool{true, true}, api.OK},
		{[]api.Air{bad(first)}, second, []bool{true, true}, api.OK},
		{nil, bad(first), []bool{true}, api.OK},
		// The Id is above all others'.
		{[]api.Air{second}, first, nil, api.ErrArg},
		{[]api.Air{second}, second, nil, api.ErrArg},
		{[]api.Air{first, short(9, 0, 0, 1)}, second, nil, api.ErrArg},
		{[]api.Air{short(math.MaxUint64, 0, 0, 1)}, first, nil, api.ErrArg},
		{[]api.Air{short(math.MaxUint64-1, 0, 0, 1)}, short(math.MaxUint64, 0, 1, 2), []bool{false, false}, api.OK},
		{[]api.Air{short(0, 0, 0, 1)}, short(0, 0, 1, 2), nil, api.ErrArg},
		{nil, short(0, 0, 1, 2), []bool{false}, api.OK},
		// Of what may not be on the channels, the things, or the new one.
		{[]api.Air{second, first}, short(3, 0, 0, 1), nil, api.ErrArg},
		{[]api.Air{first, first}, short(3, 0, 0, 1), nil, api.ErrArg},
		{[]api.Air{{Id: 1}}, short(3, 0, 0, 1), nil, api.ErrArg},
		{[]api.Air{first}, api.Air{Id: 3}, nil, api.ErrArg},
		{nil, api.Air{}, nil, api.ErrArg},
	} {
		got, e := Launch(x.l, x.x)
		var which []bool
		for _, y := range got {
			which = append(which, y.Bad)
		}
		if e != x.e || !slices.Equal(which, x.want) {
			t.Errorf("%d: got %v, %d, not %v, %d", i, which, e, x.want, x.e)
		}
		compareLaunch(t, x.l, x.x)
	}
}

func bad(x api.Air) api.Air {
	x.Bad = true
	return x
}

func TestLaunchAtTheEdges(t *testing.T) {
	before := row(2)
	for _, x := range edges() {
		compareLaunch(t, nil, x)
		compareLaunch(t, []api.Air{x}, thing(1000))
		x.Id = 1000
		compareLaunch(t, before, x)
		compareLaunch(t, append(copied(before), x), thing(1001))
	}
}

// All lists of up to three things of a few times, launched one by one.
func TestLaunchOfAllShort(t *testing.T) {
	var all []api.Air
	for ch := range 2 {
		for at := range int64(3) {
			for end := at + 1; end <= 3; end++ {
				all = append(all, short(0, ch, at, end), bad(short(0, ch, at, end)))
			}
		}
	}
	var grow func(l []api.Air)
	grow = func(l []api.Air) {
		for _, x := range all {
			x.Id = uint64(len(l))
			if more := compareLaunch(t, l, x); len(l) < 2 {
				grow(more)
			}
		}
	}
	grow(nil)
}

func TestLaunchOfDrawn(t *testing.T) {
	for many := range 40 {
		l := drawnList(many, uint64(many))
		for i, n := range drawn.Numbers(30, 21) {
			x := drawnThing(1<<30+uint64(i), n)
			compareLaunch(t, l, x)
			// Now and then its Id is one that is there, or just above it.
			if many > 0 {
				x.Id = l[many-1].Id + n>>45%2
				compareLaunch(t, l, x)
			}
		}
	}
}

func TestLaunchOfMany(t *testing.T) {
	x := short(5000, 0, 0, 1000)
	for _, many := range []int{254, 255} {
		if l, e := Launch(row(many), x); len(l) != many+1 || e != api.OK {
			t.Errorf("%d things: got %d, %d", many, len(l), e)
		}
		compareLaunch(t, row(many), x)
	}
	if l, e := Launch(row(256), x); l != nil || e != api.ErrFull {
		t.Errorf("256 things: got %d, %d", len(l), e)
	}
	// What is amiss comes first.
	wrong := api.Air{Id: 5000}
	twice := row(256)
	twice[200].Id = twice[199].Id
	for i, c := range []struct {
		l []api.Air
		x api.Air
	}{{row(256), wrong}, {row(256), thing(10 + 3*255)}, {row(256), thing(4)}, {twice, x}, {row(257), x}, {row(257), wrong}, {row(600), x}} {
		if l, e := Launch(c.l, c.x); l != nil || e != api.ErrArg {
			t.Errorf("%d: got %d, %d", i, len(l), e)
		}
	}
}

func TestHeardByHand(t *testing.T) {
	l := []api.Air{thing(1), bad(thing(4)), thing(9)}
	l[1].Left = 1
	left, x, e := Heard(l, 1)
	if e != api.OK || plainOf(x) != plainOf(l[0]) || len(left) != 3 || left[0].Left != 2 || !equal(left[1:], l[1:]) {
		t.Errorf("got %v, %v, %d", plainly(left), plainOf(x), e)
	}
	left, x, e = Heard(l, 4)
	if e != api.OK || x.Left != 1 || !x.Bad || plainOf(x) != plainOf(l[1]) || !equal(left, []api.Air{l[0], l[2]}) {
		t.Errorf("got %v, %v, %d", plainly(left), plainOf(x), e)
	}
	left, x, e = Heard(l[1:2], 4)
	if e != api.OK || len(left) != 0 || plainOf(x) != plainOf(l[1]) {
		t.Errorf("got %v, %v, %d", plainly(left), plainOf(x), e)
	}
	for _, id := range []uint64{0, 2, 3, 5, 10, math.MaxUint64} {
		if left, x, e := Heard(l, id); left != nil || !none(x) || e != api.ErrNone {
			t.Errorf("%d: got %v, %v, %d", id, plainly(left), plainOf(x), e)
		}
	}
	if left, x, e := Heard(nil, 0); left != nil || !none(x) || e != api.ErrNone {
		t.Errorf("of none: got %v, %v, %d", plainly(left), plainOf(x), e)
	}
}

func TestHeardAtTheEdges(t *testing.T) {
	before, behind := thing(2), thing(6)
	for _, x := range edges() {
		for _, l := range [][]api.Air{{x}, {before, x}, {x, behind}, {before, x, behind}, {behind, x}} {
			// The last one is no thing's Id.
			for _, id := range []uint64{x.Id, 2, 6, 77} {
				compareHeard(t, l, id)
			}
		}
	}
}

func TestHeardOfDrawn(t *testing.T) {
	for many := range 30 {
		l := drawnList(many, uint64(many)+50)
		for _, x := range l {
			compareHeard(t, l, x.Id)
			compareHeard(t, l, x.Id+1)
		}
		if many > 1 {
			l[many-2].Id = l[many-1].Id
			compareHeard(t, l, l[many-1].Id)
		}
	}
}

func TestHeardOfMany(t *testing.T) {
	l := row(256)
	for _, at := range []int{0, 1, 15, 16, 128, 254, 255} {
		compareHeard(t, l, l[at].Id)
	}
	compareHeard(t, l, 11)
	if left, x, e := Heard(row(257), l[0].Id); left != nil || !none(x) || e != api.ErrArg {
		t.Errorf("of 257: got %d, %v, %d", len(left), plainOf(x), e)
	}
}

// scribble writes into all that a list has, its things' bytes too, to the end of their memory.
func scribble(l []api.Air) {
	for i := range l {
		b := l[i].B[:cap(l[i].B)]
		for j := range b {
			b[j] = 99
		}
	}
	l = l[:cap(l)]
	for i := range l {
		l[i] = api.Air{Id: 7777, From: -1, Left: 55}
	}
}

// tight is a list that has room behind it, and whose things have their bytes beside one another in one memory.
func tight() []api.Air {
	b := []byte{1, 2, 3, 4, 5, 6, 7, 8}
	l := row(5)
	for i := range l {
		l[i].B, l[i].Left = b[i:i+2], 2
	}
	return l[:4]
}

// What is told shares no memory with what was handed in, and nothing is written behind that.
func TestWhatIsToldIsNew(t *testing.T) {
	x := short(1000, 0, 0, 9)
	calls := map[string]func(l []api.Air) []api.Air{
		"Launch": func(l []api.Air) []api.Air {
			x.B = l[0].B
			more, _ := Launch(l, x)
			return more
		},
		"Heard": func(l []api.Air) []api.Air {
			left, y, _ := Heard(l, l[2].Id)
			return append(left, y)
		},
		"Heard at last": func(l []api.Air) []api.Air {
			l[1].Left = 1
			left, y, _ := Heard(l, l[1].Id)
			return append(left, y)
		},
		"Find": func(l []api.Air) []api.Air {
			y, _ := Find(l, l[3].Id)
			return []api.Air{y}
		},
	}
	for name, call := range calls {
		l := tight()
		call(l)
		was := copied(l[:5])
		told := call(l)
		toldWas := copied(told)
		if !equal(l[:5], was) {
			t.Errorf("%s: what was handed in is changed: %v", name, plainly(l[:5]))
		}
		scribble(told)
		if !equal(l[:5], was) {
			t.Errorf("%s: what was handed in is the answer's: %v", name, plainly(l[:5]))
		}
		told = call(l)
		scribble(l)
		if len(told) == 0 || !equal(told, toldWas) {
			t.Errorf("%s: the answer is what was handed in: %v", name, plainly(told))
		}
	}
}

// No two things of an answer share their bytes, though those that were handed in do.
func TestNoTwoOfAnAnswerShare(t *testing.T) {
	alone := func(name string, l []api.Air) {
		for i := range l {
			was := copied(l)
			for j := range l[i].B[:cap(l[i].B)] {
				l[i].B[:cap(l[i].B)][j] += 50
			}
			was[i].B = l[i].B
			if len(l[i].B) == 0 || !equal(l, was) {
				t.Errorf("%s: %d shares its bytes: %v", name, i, plainly(l))
			}
		}
	}
	l := tight()
	x := short(1000, 0, 0, 9)
	x.B = l[0].B
	more, _ := Launch(l, x)
	alone("Launch", more)
	left, y, _ := Heard(l, l[2].Id)
	alone("Heard", append(left, y))
	l[3].Left = 1
	left, y, _ = Heard(l, l[3].Id)
	alone("Heard at last", append(left, y))
}
