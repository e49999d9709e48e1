package medium

import (
	"math"
	"slices"
	"testing"

	"pallet/api"
	"pallet/drawn"
)

// The chapters' numbers, written out: a limit that is mistaken elsewhere is noticed here.
const (
	nodes    = 16
	channels = 2
	maxAirs  = 256
	mostText = 64
	maxTime  = 1152921504606846976
	maxDelay = 1099511627776
)

// plain is a thing as a value that is compared.
type plain struct {
	id       uint64
	from, ch int
	at, end  int64
	text     string
	bad      bool
	left     int
}

func plainOf(x api.Air) plain {
	return plain{id: x.Id, from: x.From, ch: x.Chan, at: x.At, end: x.End, text: string(x.B), bad: x.Bad, left: x.Left}
}

func plainly(l []api.Air) []plain {
	var all []plain
	for _, x := range l {
		all = append(all, plainOf(x))
	}
	return all
}

func equal(a, b []api.Air) bool { return slices.Equal(plainly(a), plainly(b)) }

func none(x api.Air) bool { return plainOf(x) == plain{} && x.B == nil }

// copied is a list in memory of its own.
func copied(l []api.Air) []api.Air {
	all := slices.Clone(l)
	for i := range all {
		all[i].B = slices.Clone(all[i].B)
	}
	return all
}

// mayBe tells whether a thing may be on a channel, by the chapter's own words.
func mayBe(x api.Air) bool {
	switch {
	case x.From < 0, x.From > nodes-1:
		return false
	case x.Chan < 0, x.Chan > channels-1:
		return false
	case x.At < 0, x.At > maxTime, x.End < 0, x.End > maxTime:
		return false
	case x.At >= x.End:
		return false
	case len(x.B) > mostText:
		return false
	case x.Left < 1, x.Left > nodes:
		return false
	}
	return true
}

// listMayBe tells whether things may be on the channels, by the chapter's own words.
func listMayBe(l []api.Air) bool {
	for i, x := range l {
		if !mayBe(x) {
			return false
		}
		for _, y := range l[:i] {
			if y.Id >= x.Id {
				return false
			}
		}
	}
	return len(l) <= maxAirs
}

// thing is a plain thing that may be.
func thing(id uint64) api.Air {
	return api.Air{Id: id, From: 1, At: 5, End: 9, B: []byte{7, 8}, Left: 3}
}

// short is a thing that lasts from one time to another.
func short(id uint64, ch int, at, end int64) api.Air {
	return api.Air{Id: id, Chan: ch, At: at, End: end, Left: 1}
}

// edges are things at each edge of what may be, and just behind it.
func edges() []api.Air {
	var all []api.Air
	add := func(change func(x *api.Air)) {
		x := thing(4)
		change(&x)
		all = append(all, x)
	}
	for _, n := range []int{math.MinInt, -16, -1, 0, 1, 2, 3, 14, 15, 16, 17, 64, 255, 256, 1 << 32, math.MaxInt} {
		add(func(x *api.Air) { x.From = n })
		add(func(x *api.Air) { x.Chan = n })
		add(func(x *api.Air) { x.Left = n })
	}
	times := []int64{math.MinInt64, -maxTime - 1, -maxTime, -1, 0, 1, 2, maxTime - 1, maxTime, maxTime + 1, math.MaxInt64}
	for _, at := range times {
		for _, end := range times {
			add(func(x *api.Air) { x.At, x.End = at, end })
		}
	}
	for _, n := range []int{0, 1, 63, 64, 65, 66, 128, 256, 257, 65536} {
		add(func(x *api.Air) { x.B = make([]byte, n) })
	}
	for _, id := range []uint64{0, 1, 1 << 62, 1 << 63, math.MaxUint64} {
		add(func(x *api.Air) { x.Id, x.Bad = id, true })
	}
	return append(all, api.Air{})
}

// row is so many things that may be, of Ids that rise by more than one; none meet.
func row(many int) []api.Air {
	var l []api.Air
	for i := range many {
		x := short(uint64(10+3*i), i%2, int64(i), int64(i)+1)
		x.From, x.Left, x.B = i%nodes, 1+i%nodes, []byte{byte(i)}
		l = append(l, x)
	}
	return l
}

// drawnThing is a thing that may be, of a few times, made of a drawn number.
func drawnThing(id, n uint64) api.Air {
	x := api.Air{Id: id, From: int(n % nodes), Chan: int(n >> 4 % 2), At: int64(n >> 5 % 40), Bad: n>>30%8 == 0, Left: 1 + int(n>>40%3)}
	x.End = x.At + 1 + int64(n>>12%8)
	for i := range n >> 20 % 4 {
		x.B = append(x.B, byte(n>>(22+i)))
	}
	return x
}

// drawnList is a list that may be, of so many things.
func drawnList(many int, from uint64) []api.Air {
	var l []api.Air
	id := from % 3
	for _, n := range drawn.Numbers(many, from) {
		l = append(l, drawnThing(id, n))
		id += 1 + n>>50
	}
	return l
}

// P11.1

func TestTheNumbersAreTheChapters(t *testing.T) {
	for name, same := range map[string]bool{
		"MaxNodes": api.MaxNodes == nodes,
		"Channels": api.Channels == channels,
		"MaxAirs":  api.MaxAirs == maxAirs,
		"MaxTime":  api.MaxTime == maxTime,
		"MaxDelay": api.MaxDelay == maxDelay,
	} {
		if !same {
			t.Errorf("%s is another number", name)
		}
	}
}

func compareCheck(t *testing.T, l ...api.Air) {
	t.Helper()
	want := api.ErrArg
	if listMayBe(l) {
		want = api.OK
	}
	was := copied(l)
	if e := Check(l...); e != want {
		t.Errorf("%v: got %d, not %d", plainly(l), e, want)
	}
	if !equal(l, was) {
		t.Errorf("%v is changed to %v", plainly(was), plainly(l))
	}
}

func TestCheckByHand(t *testing.T) {
	for i, x := range []struct {
		change func(x *api.Air)
		want   api.Errno
	}{
		{func(x *api.Air) {}, api.OK},
		{func(x *api.Air) { x.Id = math.MaxUint64 }, api.OK},
		{func(x *api.Air) { x.Bad = true }, api.OK},
		{func(x *api.Air) { x.B = nil }, api.OK},
		{func(x *api.Air) { x.B = make([]byte, 64) }, api.OK},
		{func(x *api.Air) { x.B = make([]byte, 65) }, api.ErrArg},
		{func(x *api.Air) { x.From = 0 }, api.OK},
		{func(x *api.Air) { x.From = 15 }, api.OK},
		{func(x *api.Air) { x.From = 16 }, api.ErrArg},
		{func(x *api.Air) { x.From = -1 }, api.ErrArg},
		{func(x *api.Air) { x.Chan = 1 }, api.OK},
		{func(x *api.Air) { x.Chan = 2 }, api.ErrArg},
		{func(x *api.Air) { x.Chan = -1 }, api.ErrArg},
		{func(x *api.Air) { x.Left = 1 }, api.OK},
		{func(x *api.Air) { x.Left = 16 }, api.OK},
		{func(x *api.Air) { x.Left = 17 }, api.ErrArg},
		{func(x *api.Air) { x.Left = 0 }, api.ErrArg},
		{func(x *api.Air) { x.At = 0 }, api.OK},
		{func(x *api.Air) { x.At = -1 }, api.ErrArg},
		{func(x *api.Air) { x.At = 8 }, api.OK},
		{func(x *api.Air) { x.At = 9 }, api.ErrArg},
		{func(x *api.Air) { x.At = 10 }, api.ErrArg},
		{func(x *api.Air) { x.At, x.End = -2, -1 }, api.ErrArg},
		{func(x *api.Air) { x.At, x.End = 0, 1<<60 }, api.OK},
		{func(x *api.Air) { x.At, x.End = 1<<60-1, 1<<60 }, api.OK},
		{func(x *api.Air) { x.At, x.End = 1<<60-1, 1<<60+1 }, api.ErrArg},
		{func(x *api.Air) { x.At, x.End = 1<<60, 1<<60+1 }, api.ErrArg},
		{func(x *api.Air) { x.At, x.End = 0, 0 }, api.ErrArg},
		{func(x *api.Air) { *x = api.Air{} }, api.ErrArg},
	} {
		y := thing(4)
		x.change(&y)
		if e := Check(y); e != x.want {
			t.Errorf("%d: %v: got %d, not %d", i, plainOf(y), e, x.want)
		}
	}
}

func TestCheckOfNone(t *testing.T) {
	if e := Check(); e != api.OK {
		t.Errorf("got %d", e)
	}
	if e := Check([]api.Air{}...); e != api.OK {
		t.Errorf("got %d", e)
	}
}

// Each edge by itself, and ahead of others, between and behind them.
func TestCheckAtTheEdges(t *testing.T) {
	before, behind := thing(2), thing(6)
	for _, x := range edges() {
		compareCheck(t, x)
		compareCheck(t, x, behind)
		compareCheck(t, before, x)
		compareCheck(t, before, x, behind)
	}
}

func TestCheckOfIdsThatRise(t *testing.T) {
	ids := []uint64{0, 1, 2, 1 << 62, 1 << 63, math.MaxUint64 - 1, math.MaxUint64}
	for _, a := range ids {
		for _, b := range ids {
			compareCheck(t, thing(a), thing(b))
			for _, c := range ids {
				compareCheck(t, thing(a), thing(b), thing(c))
			}
		}
	}
}

func TestCheckOfMany(t *testing.T) {
	for _, many := range []int{1, 2, 100, 255, 256, 257, 258, 512, 5000} {
		compareCheck(t, row(many)...)
	}
	// Of the most that may be, one is amiss, wherever it is.
	for i := range maxAirs {
		for _, amiss := range []api.Air{{}, {Id: 10 + 3*uint64(i), End: 1, Left: 17}} {
			l := row(maxAirs)
			l[i] = amiss
			if e := Check(l...); e != api.ErrArg {
				t.Errorf("%v at %d: got %d", amiss, i, e)
			}
		}
	}
	// One has the Id of the one ahead of it.
	for i := range maxAirs - 1 {
		l := row(maxAirs)
		l[i+1].Id = l[i].Id
		if e := Check(l...); e != api.ErrArg {
			t.Errorf("Id twice at %d: got %d", i, e)
		}
	}
}

// lastsAt tells whether a thing is on its channel in the picosecond behind a time.
func lastsAt(x api.Air, at int64) bool { return x.At <= at && at < x.End }

// Of things that may be: two meet just if there is a picosecond in which both are on one channel.
func TestMeetOfAllShort(t *testing.T) {
	var all []api.Air
	for ch := range 2 {
		for at := range int64(5) {
			for end := at + 1; end <= 5; end++ {
				all = append(all, short(1, ch, at, end))
			}
		}
	}
	for _, a := range all {
		for _, b := range all {
			want := false
			for at := range int64(5) {
				want = want || a.Chan == b.Chan && lastsAt(a, at) && lastsAt(b, at)
			}
			if Meet(a, b) != want {
				t.Errorf("%v, %v: got %v", plainOf(a), plainOf(b), !want)
			}
		}
	}
}

func TestMeetByHand(t *testing.T) {
	for i, x := range []struct {
		a, b api.Air
		want bool
	}{
		// The chapter's example.
		{short(1, 0, 0, 10), short(2, 0, 5, 15), true},
		{short(1, 0, 0, 10), short(2, 0, 10, 15), false},
		{short(1, 0, 0, 10), short(2, 0, 9, 15), true},
		{short(1, 1, 0, 10), short(2, 1, 5, 15), true},
		{short(1, 0, 0, 10), short(2, 1, 5, 15), false},
		{short(1, 0, 0, 10), short(2, 0, 3, 4), true},
		{short(1, 0, 0, 10), short(1, 0, 0, 10), true},
		{short(1, 0, 0, 10), short(2, 0, 0, 1), true},
		{short(1, 0, 0, 10), short(2, 0, 11, 12), false},
		{short(1, 0, 0, 1<<60), short(2, 0, 1<<60-1, 1<<60), true},
		{short(1, 0, 0, 1<<60-1), short(2, 0, 1<<60-1, 1<<60), false},
		// What may not be on a channel is taken by the same words.
		{short(1, 9, 0, 10), short(2, 9, 5, 15), true},
		{short(1, -1, 0, 10), short(2, -1, 5, 15), true},
		{short(1, 2, 0, 10), short(2, 0, 5, 15), false},
		{short(1, 0, 5, 5), short(2, 0, 0, 10), true},
		{short(1, 0, 5, 5), short(2, 0, 5, 10), false},
		{short(1, 0, 5, 5), short(2, 0, 5, 5), false},
		{short(1, 0, 6, 4), short(2, 0, 0, 10), true},
		{short(1, 0, 10, 0), short(2, 0, 3, 4), false},
		{short(1, 0, -20, -10), short(2, 0, -15, 0), true},
		{short(1, 0, math.MinInt64, math.MaxInt64), short(2, 0, -1, 1), true},
		{short(1, 0, math.MinInt64, -1), short(2, 0, -1, math.MaxInt64), false},
		{api.Air{}, api.Air{}, false},
	} {
		if got, back := Meet(x.a, x.b), Meet(x.b, x.a); got != x.want || back != x.want {
			t.Errorf("%d: got %v, and %v the other way round", i, got, back)
		}
	}
}

// Nothing but the channels and the times tells.
func TestMeetWhoeverItIs(t *testing.T) {
	a := short(1, 0, 0, 10)
	for _, at := range []int64{9, 10} {
		b := api.Air{Id: 1, From: 3, At: at, End: 12, B: []byte{1}, Bad: true, Left: 9}
		if Meet(a, b) != (at == 9) || Meet(b, a) != (at == 9) {
			t.Errorf("from %d on: got %v, %v", at, Meet(a, b), Meet(b, a))
		}
	}
}

func TestFindByHand(t *testing.T) {
	l := []api.Air{thing(3), short(0, 1, 2, 4), thing(math.MaxUint64), short(3, 0, 0, 1), {Id: 8, From: -5}}
	for _, at := range []int{0, 1, 2, 4} {
		if x, is := Find(l, l[at].Id); !is || plainOf(x) != plainOf(l[at]) {
			t.Errorf("%d: got %v, %v", l[at].Id, plainOf(x), is)
		}
	}
	for _, id := range []uint64{1, 2, 4, 7, 9, math.MaxUint64 - 1} {
		if x, is := Find(l, id); is || !none(x) {
			t.Errorf("%d: got %v, %v", id, plainOf(x), is)
		}
	}
	for _, l := range [][]api.Air{nil, {}} {
		if x, is := Find(l, 0); is || !none(x) {
			t.Errorf("of none: got %v, %v", plainOf(x), is)
		}
	}
}

// Of any list the first of the Id is found, of one that may not be on the channels, too.
func TestFindOfAllShort(t *testing.T) {
	for n := range 256 {
		var l []api.Air
		for i := range 4 {
			x := thing(uint64(n >> (2 * i) % 4))
			x.At = int64(i)
			l = append(l, x)
		}
		for id := range uint64(4) {
			want := slices.IndexFunc(l, func(x api.Air) bool { return x.Id == id })
			x, is := Find(l, id)
			if is != (want >= 0) || !is && !none(x) || is && plainOf(x) != plainOf(l[want]) {
				t.Errorf("%v, %d: got %v, %v", plainly(l), id, plainOf(x), is)
			}
		}
	}
}

func TestFindOfMany(t *testing.T) {
	l := row(1000)
	for i, x := range l {
		if y, is := Find(l, x.Id); !is || plainOf(y) != plainOf(l[i]) {
			t.Errorf("%d: got %v, %v", x.Id, plainOf(y), is)
		}
		if y, is := Find(l, x.Id+1); is || !none(y) {
			t.Errorf("%d: got %v, %v", x.Id+1, plainOf(y), is)
		}
	}
}

// others are a thing with one part changed, each.
func others(x api.Air) []api.Air {
	var all []api.Air
	add := func(change func(x *api.Air)) {
		y := copied([]api.Air{x})[0]
		change(&y)
		all = append(all, y)
	}
	add(func(x *api.Air) { x.Id++ })
	add(func(x *api.Air) { x.Id += 1 << 63 })
	add(func(x *api.Air) { x.From++ })
	add(func(x *api.Air) { x.From -= 1 << 40 })
	add(func(x *api.Air) { x.Chan = 1 - x.Chan })
	add(func(x *api.Air) { x.At-- })
	add(func(x *api.Air) { x.At += 1 << 60 })
	add(func(x *api.Air) { x.End++ })
	add(func(x *api.Air) { x.End += 1 << 60 })
	add(func(x *api.Air) { x.Bad = !x.Bad })
	add(func(x *api.Air) { x.Left++ })
	add(func(x *api.Air) { x.B[0]++ })
	add(func(x *api.Air) { x.B[len(x.B)-1] ^= 128 })
	add(func(x *api.Air) { x.B = x.B[1:] })
	add(func(x *api.Air) { x.B = append(x.B, 0) })
	add(func(x *api.Air) { x.B = nil })
	return all
}

func TestSame(t *testing.T) {
	for many := range 5 {
		l := drawnList(many, 3)
		for i := range l {
			l[i].B = []byte{1, byte(i), 3}
		}
		if !Same(l, copied(l)) || !Same(l, l) {
			t.Errorf("%d things are not themselves", many)
		}
		if longer := append(copied(l), thing(1<<40)); Same(l, longer) || Same(longer, l) {
			t.Errorf("%d things are one more", many)
		}
		for i := range l {
			for j, y := range others(l[i]) {
				other := copied(l)
				other[i] = y
				if Same(l, other) || Same(other, l) {
					t.Errorf("%d things, %d at %d: they are the same", many, j, i)
				}
			}
		}
	}
}

func TestSameByHand(t *testing.T) {
	bare, empty := thing(1), thing(1)
	bare.B, empty.B = nil, []byte{}
	wrong := api.Air{From: -1, Left: -9}
	for i, x := range []struct {
		a, b []api.Air
		want bool
	}{
		{nil, nil, true},
		{nil, []api.Air{}, true},
		{nil, []api.Air{{}}, false},
		// A text without bytes is nil or empty.
		{[]api.Air{bare}, []api.Air{empty}, true},
		{[]api.Air{thing(1), thing(2)}, []api.Air{thing(2), thing(1)}, false},
		{[]api.Air{thing(1), thing(1)}, []api.Air{thing(1), thing(1)}, true},
		// What may not be on the channels is compared, too.
		{[]api.Air{wrong}, []api.Air{wrong}, true},
		{[]api.Air{wrong}, []api.Air{{From: -1}}, false},
		{row(1000), row(1000), true},
		{row(1000), row(999), false},
	} {
		if got, back := Same(x.a, x.b), Same(x.b, x.a); got != x.want || back != x.want {
			t.Errorf("%d: got %v, and %v the other way round", i, got, back)
		}
	}
}
