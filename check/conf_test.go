package check

import (
	"math"
	"slices"
	"testing"

	"pallet/api"
	"pallet/sample"
)

// P17.3

func TestConfByHand(t *testing.T) {
	medl := api.Medl{Nodes: 3, Slot: 100, Lead: 20, Frame: 30, Window: 10}
	none := func() [][]int64 { return [][]int64{{0, 0, 0}, {0, 0, 0}, {0, 0, 0}} }
	calm := api.Conf{M: medl, Tick: 1000, Horizon: 1000000000, Drift: []int64{0, 0, 0}, Power: []int64{0, 0, 0}, Delay: none()}
	for s, change := range map[string]func(c *api.Conf){
		"":                   func(c *api.Conf) {},
		"guard 0;":           func(c *api.Conf) {},
		"guard 1;":           func(c *api.Conf) { c.Guard = true },
		"drift 1 -50;":       func(c *api.Conf) { c.Drift[1] = -50 },
		"drift 2 1000000;":   func(c *api.Conf) { c.Drift[2] = 1000000 },
		"power 0 5us;":       func(c *api.Conf) { c.Power[0] = 5000000 },
		"power 2 7ps;":       func(c *api.Conf) { c.Power[2] = 7 },
		"delay 0 2 7ns;":     func(c *api.Conf) { c.Delay[0][2] = 7000 },
		"delay 2 0 8ns;":     func(c *api.Conf) { c.Delay[2][0] = 8000 },
		"drift 0 0;":         func(c *api.Conf) {},
		"crash 1 5ns;":       func(c *api.Conf) {},
		"repeat 2 10ns {}":   func(c *api.Conf) {},
		"silence 1 5us 2us;": func(c *api.Conf) {},
		"drift 2 3; drift 0 1; drift 1 2; power 1 2ps; power 0 1ps; delay 1 0 1ps; delay 0 1 2ps; guard 1;": func(c *api.Conf) {
			c.Drift, c.Power, c.Guard = []int64{1, 2, 3}, []int64{1, 2, 0}, true
			c.Delay[1][0], c.Delay[0][1] = 1, 2
		},
	} {
		want := calm
		want.Drift, want.Power, want.Delay = make([]int64, 3), make([]int64, 3), none()
		change(&want)
		for _, text := range []string{world + s, s + world} {
			l := parsed(t, text)
			if c, at, e := Conf(l...); shown(c) != shown(want) || !Same(c, want) || at != 0 || e != okE {
				t.Errorf("Conf(%q): got %v, %d, %d", text, c, at, e)
			}
			checkList(t, l)
		}
		checkWorld(t, want)
	}
}

// What must stand tells each its own part.
func TestConfPartByPart(t *testing.T) {
	for s, want := range map[string]api.Conf{
		"nodes 2; tick 3ps; slot 17 4 5 2; horizon 6ps;":        {M: api.Medl{Nodes: 2, Slot: 17, Lead: 4, Frame: 5, Window: 2}, Tick: 3, Horizon: 6},
		"horizon 0s; slot 16 1 2 1; tick 1ms; nodes 16;":        {M: api.Medl{Nodes: 16, Slot: 16, Lead: 1, Frame: 2, Window: 1}, Tick: maxPeriod},
		"slot 1048576 2 3 1; nodes 5; horizon 1125s; tick 1us;": {M: api.Medl{Nodes: 5, Slot: maxSlot, Lead: 2, Frame: 3, Window: 1}, Tick: 1000000, Horizon: 1125000000000000},
	} {
		many := want.M.Nodes
		want.Drift, want.Power = make([]int64, many), make([]int64, many)
		for range many {
			want.Delay = append(want.Delay, make([]int64, many))
		}
		if c, at, e := Conf(parsed(t, s)...); shown(c) != shown(want) || at != 0 || e != okE {
			t.Errorf("Conf(%q): got %v, %d, %d", s, c, at, e)
		}
		checkWorld(t, want)
	}
}

func TestConfOfAllThatMayStand(t *testing.T) {
	l := full()
	for i := range l[4:] {
		x := l[4+i]
		x.Nums[len(x.Nums)-1].N = int64(i + 1)
	}
	l[len(l)-1].Nums[0].N = 1
	if e := checkList(t, l); e != okE {
		t.Fatalf("got %d", e)
	}
	c, _, _ := Conf(l...)
	if c.Drift[0] != 1 || c.Drift[15] != 16 || c.Power[0] != 17 || c.Power[15] != 32 || c.Delay[0][1] != 33 || c.Delay[1][0] != 48 || c.Delay[15][14] != 272 || !c.Guard {
		t.Errorf("got %v", c)
	}
	checkWorld(t, c)
}

// What Conf tells is the caller's own, list by list, and nothing of what was handed in.
func TestConfTellsWhatIsNew(t *testing.T) {
	for i := range uint64(100) {
		l := sample.Campaign(i)
		was := sample.Shown(l)
		c, _, _ := Conf(l...)
		want := shown(c)
		other, _, _ := Conf(l...)
		lists := append([][]int64{other.Drift, other.Power}, other.Delay...)
		for j, x := range lists {
			for k := range x {
				x[k] = int64(1000*j + k)
			}
			_ = append(x, 77)
		}
		for j, x := range lists {
			for k := range x {
				if x[k] != int64(1000*j+k) {
					t.Fatalf("%v: a list stands in another one", other)
				}
			}
		}
		_ = append(other.Delay, nil)
		if again, _, _ := Conf(l...); shown(again) != want || shown(c) != want || sample.Shown(l) != was {
			t.Fatalf("%s became %v, and %v", want, c, again)
		}
		sample.Spoil(l)
		if shown(c) != want {
			t.Fatalf("%s became %v", want, c)
		}
	}
}

// worlds are worlds that may be.
func worlds(many uint64) []api.Conf {
	l := []api.Conf{confOf(full())}
	for i := range many {
		l = append(l, confOf(sample.Campaign(i)))
	}
	return l
}

// own is a world in new memory.
func own(c api.Conf) api.Conf {
	c.Drift, c.Power, c.Delay = slices.Clone(c.Drift), slices.Clone(c.Power), slices.Clone(c.Delay)
	for i := range c.Delay {
		c.Delay[i] = slices.Clone(c.Delay[i])
	}
	return c
}

// numbersOf are where each number of a world stands, with from what to what it is to be, if nothing else stands against it.
func numbersOf(c *api.Conf) (all []*int64, from, to []int64) {
	add := func(n *int64, least, most int64) {
		all, from, to = append(all, n), append(from, least), append(to, most)
	}
	add(&c.Tick, 1, maxPeriod)
	add(&c.Horizon, 0, maxHorizon)
	for i := range c.Drift {
		add(&c.Drift[i], -maxDrift, maxDrift)
	}
	for i := range c.Power {
		add(&c.Power[i], 0, maxHorizon)
	}
	for i, d := range c.Delay {
		for j := range d {
			if i == j {
				add(&d[j], 0, 0)
			} else {
				add(&d[j], 0, maxDelay)
			}
		}
	}
	return all, from, to
}

// Each number of a world at, and beside, the edges of what it is to be.
func TestEdgesOfWorlds(t *testing.T) {
	for _, c := range worlds(6) {
		if e := checkWorld(t, c); e != okE {
			t.Fatalf("%v: got %d", c, e)
		}
		c = own(c)
		all, from, to := numbersOf(&c)
		for at := 0; at < len(all); at += 1 + at/40 {
			was := *all[at]
			for _, n := range []int64{from[at] - 1, from[at], from[at] + 1, to[at] - 1, to[at], to[at] + 1, math.MinInt64, math.MaxInt64, 1e18} {
				*all[at] = n
				want := api.Errno(argE)
				if from[at] <= n && n <= to[at] {
					want = okE
				}
				if e := checkWorld(t, c); e != want {
					t.Fatalf("%v: got %d, want %d", c, e, want)
				}
			}
			*all[at] = was
		}
	}
}

// A schedule that may not be, and a number of nodes that is not the lists'.
func TestSchedulesOfWorlds(t *testing.T) {
	for _, c := range worlds(20) {
		m := c.M
		for _, x := range []api.Medl{
			{}, {Nodes: m.Nodes - 1, Slot: m.Slot, Lead: m.Lead, Frame: m.Frame, Window: m.Window}, {Nodes: m.Nodes + 1, Slot: m.Slot, Lead: m.Lead, Frame: m.Frame, Window: m.Window},
			{Nodes: -m.Nodes, Slot: m.Slot, Lead: m.Lead, Frame: m.Frame, Window: m.Window}, {Nodes: math.MaxInt, Slot: m.Slot, Lead: m.Lead, Frame: m.Frame, Window: m.Window},
			{Nodes: m.Nodes, Slot: 15, Lead: 1, Frame: 1, Window: 1}, {Nodes: m.Nodes, Slot: 16, Lead: 1, Frame: 1, Window: 1}, {Nodes: m.Nodes, Slot: maxSlot + 1, Lead: 1, Frame: 1, Window: 1}, {Nodes: m.Nodes, Slot: maxSlot, Lead: 1, Frame: 1, Window: 1},
			{Nodes: m.Nodes, Slot: 100, Lead: 9, Frame: 30, Window: 10}, {Nodes: m.Nodes, Slot: 100, Lead: 10, Frame: 30, Window: 10}, {Nodes: m.Nodes, Slot: 100, Lead: 20, Frame: 70, Window: 10}, {Nodes: m.Nodes, Slot: 100, Lead: 20, Frame: 69, Window: 10},
			{Nodes: m.Nodes, Slot: 100, Lead: 20, Frame: 0, Window: 10}, {Nodes: m.Nodes, Slot: 100, Lead: 20, Frame: 30}, {Nodes: m.Nodes, Slot: 100, Frame: 30}, {Nodes: m.Nodes, Slot: 100, Lead: math.MaxInt64, Frame: math.MaxInt64, Window: 10},
			{Nodes: m.Nodes, Slot: 100, Lead: 20, Frame: 30, Window: -10}, {Nodes: m.Nodes, Slot: 100, Lead: 20, Frame: -30, Window: 10},
		} {
			c.M = x
			checkWorld(t, c)
		}
	}
}

// Lists that are shorter, longer, or not there.
func TestListsOfWorlds(t *testing.T) {
	sized := func(l []int64) [][]int64 {
		return [][]int64{nil, {}, l[:1], l[:len(l)-1], append(slices.Clone(l), 0), append(slices.Clone(l), l...)}
	}
	for _, c := range worlds(12) {
		wrong := func(c api.Conf) {
			t.Helper()
			if e := checkWorld(t, c); e != argE {
				t.Fatalf("%v: got %d", c, e)
			}
		}
		for _, l := range sized(c.Drift) {
			x := c
			x.Drift = l
			wrong(x)
		}
		for _, l := range sized(c.Power) {
			x := c
			x.Power = l
			wrong(x)
		}
		for i := range c.Delay {
			for _, l := range sized(c.Delay[i]) {
				x := own(c)
				x.Delay[i] = l
				wrong(x)
			}
		}
		for _, l := range [][][]int64{nil, {}, c.Delay[:1], c.Delay[:len(c.Delay)-1], append(slices.Clone(c.Delay), c.Delay[0]), append(slices.Clone(c.Delay), nil)} {
			x := c
			x.Delay = l
			wrong(x)
		}
	}
	// As many nodes as there are lists of each kind, but too many, or too few.
	for _, many := range []int{0, 1, 2, 15, 16, 17, 18, 40} {
		c := api.Conf{M: api.Medl{Nodes: many, Slot: 100, Lead: 20, Frame: 30, Window: 10}, Tick: 1, Drift: make([]int64, many), Power: make([]int64, many)}
		for range many {
			c.Delay = append(c.Delay, make([]int64, many))
		}
		want := api.Errno(argE)
		if many >= 2 && many <= 16 {
			want = okE
		}
		if e := checkWorld(t, c); e != want {
			t.Errorf("%d nodes: got %d", many, e)
		}
	}
	if Fine(api.Conf{}) != argE {
		t.Error("there is a world of nothing")
	}
}

func TestTellByHand(t *testing.T) {
	for s, want := range map[string]string{
		world:                            world,
		world + "guard 0;":               world,
		world + "drift 1 0; power 2 0s;": world,
		"guard 1; power 2 3ns; delay 2 1 4ps; drift 2 -1; delay 0 2 5ps; crash 0 0s; delay 2 0 6ps; drift 0 1; power 0 2ns; " + world: world + "drift 0 1; drift 2 -1; power 0 2ns; power 2 3ns; delay 0 2 5ps; delay 2 0 6ps; delay 2 1 4ps; guard 1;",
	} {
		c, _, _ := Conf(parsed(t, s)...)
		if l, e := Tell(c); sample.Shown(l) != sample.Shown(parsed(t, want)) || e != okE {
			t.Errorf("Tell of %q: got %s, %d", s, sample.Shown(l), e)
		}
	}
}

func TestTellDrawnWorlds(t *testing.T) {
	for _, c := range worlds(500) {
		if e := checkWorld(t, c); e != okE {
			t.Fatalf("%v: got %d", c, e)
		}
	}
}

// What Tell tells is the caller's own, and neither it nor Fine or Same changes what is handed in.
func TestTellTellsWhatIsNew(t *testing.T) {
	for _, c := range worlds(100) {
		was := shown(c)
		l, _ := Tell(c)
		want := sample.Shown(l)
		again, _ := Tell(c)
		for i := range l {
			l[i].Nums[0].N = int64(1000 + i)
			_ = append(l[i].Nums, api.Num{N: 77})
		}
		for i := range l {
			if l[i].Nums[0].N != int64(1000+i) {
				t.Fatalf("%s: a list stands in another one", want)
			}
		}
		sample.Spoil(l)
		Fine(c)
		Same(c, c)
		if last, _ := Tell(c); sample.Shown(again) != want || sample.Shown(last) != want || shown(c) != was {
			t.Fatalf("%s became %s", want, sample.Shown(again))
		}
	}
}

// Same tells two worlds apart just if a part is another one, whether they may be or not.
func TestSame(t *testing.T) {
	all := []api.Conf{
		{}, {Tick: 1}, {Horizon: 1}, {Guard: true}, {Drift: []int64{0}}, {Drift: []int64{1}}, {Drift: []int64{0, 0}}, {Power: []int64{0}}, {Power: []int64{1}}, {Power: []int64{0, 1}}, {Power: []int64{1, 0}},
		{Delay: [][]int64{{}}}, {Delay: [][]int64{{0}}}, {Delay: [][]int64{{}, {}}}, {Delay: [][]int64{{0}, {}}}, {Delay: [][]int64{{}, {0}}}, {Delay: [][]int64{{0, 0}}}, {Delay: [][]int64{{0, 1}}}, {Delay: [][]int64{{1}, {0}}}, {Delay: [][]int64{{0}, {1}}},
		{M: api.Medl{Nodes: 1}}, {M: api.Medl{Slot: 1}}, {M: api.Medl{Lead: 1}}, {M: api.Medl{Frame: 1}}, {M: api.Medl{Window: 1}}, {Tick: -1}, {Horizon: 2, Tick: 1}, {Horizon: 1, Tick: 2},
	}
	for _, c := range worlds(10) {
		all = append(all, c)
		x := own(c)
		numbers, _, _ := numbersOf(&x)
		for at := 0; at < len(numbers); at += 1 + len(numbers)/20 {
			*numbers[at]++
			all = append(all, own(x))
			*numbers[at]--
		}
		x.Guard = !x.Guard
		all = append(all, x)
		x.M.Window++
		all = append(all, x)
	}
	var texts []string
	for _, c := range all {
		texts = append(texts, shown(c))
	}
	for i, a := range all {
		for j, b := range all {
			if got := Same(a, own(b)); got != (texts[i] == texts[j]) {
				t.Fatalf("Same(%s, %s): got %v", texts[i], texts[j], got)
			}
		}
	}
}

// A list without elements is nil or empty.
func TestSameOfEmptyLists(t *testing.T) {
	empty := api.Conf{Drift: []int64{}, Power: []int64{}, Delay: [][]int64{}}
	if !Same(empty, api.Conf{}) || !Same(api.Conf{}, empty) || !Same(api.Conf{Delay: [][]int64{{}}}, api.Conf{Delay: [][]int64{nil}}) {
		t.Error("no numbers are told apart")
	}
}
