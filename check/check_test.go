package check

import (
	"fmt"
	"slices"
	"strings"
	"testing"

	"pallet/api"
	"pallet/parse"
	"pallet/sample"
)

// P17.2

// world is what must stand; its statements are 0 to 3.
const world = "nodes 3; tick 1ns; slot 100 20 30 10; horizon 1ms; "

func TestCheckByHand(t *testing.T) {
	type told struct {
		at int
		e  api.Errno
	}
	for s, want := range map[string]told{
		world: {0, okE},
		"horizon 1ms; slot 100 20 30 10; tick 1ns; nodes 3;":                                        {0, okE},
		world + "drift 0 5; drift 1 5; drift 2 5; power 0 1ns; power 1 1ns; power 2 1ns; guard 0;":  {0, okE},
		world + "delay 0 1 1ns; delay 1 0 1ns; delay 0 2 1ns; delay 2 0 0s; delay 1 2 1ns;":         {0, okE},
		world + "crash 0 1ns; crash 0 1ns; cut 0 0s 0s; cut 0 0s 0s; repeat 1 0s {} repeat 1 0s {}": {0, okE},
		world + "repeat 2 0s { repeat 2 0s { crash 2 0s; silence 2 0s 0s; } babble 1 0s; }":         {0, okE},
		// There must be the first four.
		"":                                     {0, noneE},
		"crash 0 0s;":                          {1, noneE},
		"guard 1; repeat 1 0s { crash 0 0s; }": {3, noneE},
		"tick 1ns; slot 100 20 30 10; horizon 0s;": {3, noneE},
		"nodes 3; slot 100 20 30 10; horizon 0s;":  {3, noneE},
		"nodes 3; tick 1ns; horizon 0s;":           {3, noneE},
		"nodes 3; tick 1ns; slot 100 20 30 10;":    {3, noneE},
		// Each may stand once.
		world + "nodes 3;":                           {4, fullE},
		world + "nodes 4;":                           {4, fullE},
		world + "tick 1ns;":                          {4, fullE},
		world + "slot 100 20 30 10;":                 {4, fullE},
		world + "horizon 2ms;":                       {4, fullE},
		world + "guard 1; guard 0;":                  {5, fullE},
		world + "drift 1 5; drift 2 5; drift 1 6;":   {6, fullE},
		world + "power 1 0s; drift 1 5; power 1 0s;": {6, fullE},
		world + "delay 0 1 0s; delay 0 1 1ns;":       {5, fullE},
		world + "delay 0 1 0s; delay 1 0 0s;":        {0, okE},
		world + "crash 0 0s; guard 1; guard 1;":      {6, fullE},
		"nodes 3; nodes 3;":                          {1, fullE},
		// In a block there is none of the first eight.
		world + "repeat 1 0s { nodes 3; }":                               {5, formE},
		world + "repeat 1 0s { crash 0 0s; repeat 1 0s { guard 1; } }":   {7, formE},
		"repeat 1 0s { nodes 3; tick 1ns; slot 100 20 30 10; }":          {1, formE},
		world + "repeat 1 0s { drift 0 5; } drift 0 5;":                  {5, formE},
		world + "repeat 1 0s { crash 0 0s; } guard 1; guard 1;":          {7, fullE},
		world + "repeat 1 0s { repeat 1 0s {} } repeat 1 0s { tick 0s;}": {7, argE},
		// Each one by itself, from the first one on.
		world + "crash 0; nodes 3;":            {4, formE},
		world + "nodes 3; crash 0;":            {4, fullE},
		world + "crash 16 0s; odd;":            {4, argE},
		world + "odd; crash 16 0s;":            {4, formE},
		"odd;":                                 {0, formE},
		"nodes 17;":                            {0, argE},
		"crash 0 0s; nodes 3; nodes 3; odd;":   {2, fullE},
		world + "repeat 1 0s { odd; } odd;":    {5, formE},
		world + "repeat 0 0s { odd; }":         {4, argE},
		world + "repeat 1 0s { crash 16 0s; }": {5, argE},
		// The schedule.
		"nodes 3; tick 1ns; slot 15 1 1 1; horizon 0s;":                {2, argE},
		"nodes 3; tick 1ns; slot 16 1 1 1; horizon 0s;":                {0, okE},
		"slot 100 20 30 21; nodes 3; tick 1ns; horizon 0s;":            {0, argE},
		"nodes 3; slot 100 20 60 20; tick 1ns; horizon 0s;":            {1, argE},
		"nodes 3; slot 100 20 59 20; tick 1ns; horizon 0s;":            {0, okE},
		"crash 3 0s; nodes 3; slot 100 20 80 20; tick 1ns;":            {4, noneE},
		"crash 3 0s; nodes 3; slot 100 20 80 20; tick 1ns; odd;":       {4, formE},
		"crash 3 0s; nodes 3; tick 1ns; horizon 0s; slot 10 2 8 2;":    {4, argE},
		"crash 3 0s; nodes 3; tick 1ns; horizon 0s; slot 100 20 8 20;": {0, argE},
		// Nodes above the last one.
		world + "drift 2 1;":                                {0, okE},
		world + "drift 3 1;":                                {4, argE},
		world + "power 3 0s;":                               {4, argE},
		world + "delay 3 0 0s;":                             {4, argE},
		world + "delay 0 3 0s;":                             {4, argE},
		world + "silence 3 0s 0s;":                          {4, argE},
		world + "corrupt 3 0s 0s;":                          {4, argE},
		world + "babble 3 0s;":                              {4, argE},
		world + "crash 3 0s;":                               {4, argE},
		world + "repeat 3 0s { crash 2 0s; crash 3 0s; }":   {6, argE},
		world + "repeat 15 0s { cut 1 0s 0s; }":             {0, okE},
		world + "crash 15 0s; drift 15 1;":                  {4, argE},
		"crash 3 0s; " + world + "drift 3 1;":               {0, argE},
		world + "drift 3 1; drift 3 1;":                     {5, fullE},
		"drift 3 1; " + strings.Replace(world, "3", "4", 1): {0, okE},
		"nodes 2; tick 1ns; slot 100 20 30 10; horizon 0s; cut 1 0s 0s; crash 2 0s;": {5, argE},
	} {
		l := parsed(t, s)
		if at, e := Check(l...); at != want.at || e != want.e {
			t.Errorf("Check(%q): got %d, %d, want %v", s, at, e, want)
		}
		checkList(t, l)
	}
}

// What may not be (parse.Check) is told of statement 0, ahead of all else.
func TestWhatMayNotBe(t *testing.T) {
	own := []api.Stmt{{Word: "repeat", Nums: rightOf("repeat").Nums, Block: true}}
	own[0].Body = own
	crash := rightOf("crash")
	deep := crash
	for range 6 {
		deep = api.Stmt{Word: "repeat", Nums: rightOf("repeat").Nums, Block: true, Body: []api.Stmt{deep}}
	}
	for i, x := range []api.Stmt{
		{}, {Word: "A"}, {Word: strings.Repeat("a", 17)}, {Word: "crash", Nums: crash.Nums, Body: []api.Stmt{crash}}, own[0], deep,
		{Word: "crash", Nums: make([]api.Num, 9)}, {Word: "crash", Nums: []api.Num{{N: 0}, {N: 1e18, Time: true}}}, {Word: "odd", Nums: []api.Num{{N: -1e18}}},
	} {
		for _, s := range []string{"", world, "odd; ", "nodes 3; nodes 3; "} {
			l := parsed(t, s)
			for at := range len(l) + 1 {
				all := slices.Insert(slices.Clone(l), at, x)
				if at, e := Check(all...); at != 0 || e != argE {
					t.Errorf("%d in %q: got %d, %d", i, s, at, e)
				}
				if c, at, e := Conf(all...); at != 0 || e != argE || shown(c) != shown(api.Conf{}) {
					t.Errorf("%d in %q: got %v, %d, %d", i, s, c, at, e)
				}
			}
		}
	}
}

// pieces are statements of which lists are made: right ones, and ones with faults of all kinds.
var pieces = []string{
	"nodes 3;", "nodes 2;", "tick 1ns;", "slot 100 20 30 10;", "slot 16 8 8 8;", "horizon 1ms;", "drift 0 1;", "drift 2 1;", "drift 0 2;", "delay 0 2 1ns;", "delay 2 0 1ns;", "power 0 1ns;", "guard 1;", "guard 0;",
	"crash 0 1ns;", "crash 2 1ns;", "cut 1 1ns 1ns;", "crash 0;", "crash 16 1ns;", "odd;", "tick 0s;",
	"repeat 1 1ns { crash 2 1ns; }", "repeat 1 1ns { guard 1; }", "repeat 1 1ns { odd; crash 15 0s; }", "repeat 1 1ns { repeat 0 1ns {} }", "repeat 1 1ns { silence 0 0s 0s; repeat 1 1ns {} babble 2 0s; }", "repeat 1 1ns;",
}

// eachList hands on all lists of so many of some statements.
func eachList(some []api.Stmt, many int, hand func(l []api.Stmt)) {
	if many == 0 {
		hand(nil)
		return
	}
	for _, x := range some {
		eachList(some, many-1, func(l []api.Stmt) { hand(append([]api.Stmt{x}, l...)) })
	}
}

// All lists of up to 3 of the pieces, alone, and ahead of, around, within and behind what must stand.
func TestEachShortList(t *testing.T) {
	var some []api.Stmt
	for _, s := range pieces {
		some = append(some, parsed(t, s)...)
	}
	must := parsed(t, world)
	met := map[api.Errno]int{}
	for many := range 4 {
		eachList(some, many, func(l []api.Stmt) {
			met[checkList(t, l)]++
			if many < 3 || l[0].Word == "repeat" {
				met[checkList(t, slices.Concat(l, must))]++
			}
			met[checkList(t, slices.Concat(must, l))]++
			if many == 2 {
				met[checkList(t, slices.Concat(must[2:], l[:1], must[:2], l[1:]))]++
			}
		})
	}
	for _, e := range []api.Errno{okE, argE, formE, fullE, noneE} {
		if met[e] < 500 {
			t.Errorf("of error %d there are %d lists", e, met[e])
		}
	}
}

// What must stand, in each order, with each part left out, stood twice, or in a block.
func TestEachOrderOfWhatMustStand(t *testing.T) {
	must := parsed(t, world+"guard 1; crash 2 0s;")
	var try func(l []api.Stmt, used int)
	try = func(l []api.Stmt, used int) {
		checkList(t, l)
		for at := range l {
			checkList(t, slices.Concat(l, l[at:at+1]))
			checkList(t, slices.Insert(slices.Clone(l), at, l[len(l)-1]))
		}
		block := rightOf("repeat")
		block.Body = l
		checkList(t, []api.Stmt{block})
		checkList(t, slices.Concat(l, []api.Stmt{block}))
		for i, x := range must {
			if used>>i&1 == 0 {
				try(append(slices.Clone(l), x), used|1<<i)
			}
		}
	}
	try(nil, 0)
}

// Each schedule of few ticks, wherever its statement stands.
func TestEachSmallSchedule(t *testing.T) {
	met := map[api.Errno]int{}
	for long := int64(14); long < 19; long++ {
		for lead := range long {
			for frame := range long {
				for window := range long {
					at := int(lead+frame+window) % 4
					slot := sample.Said("slot", "nnnn", long, lead, frame, window)
					l := slices.Insert(parsed(t, "nodes 2; tick 1ns; horizon 0s; crash 2 0s;"), at, slot)
					met[checkList(t, l)]++
					l[4] = rightOf("crash")
					met[checkList(t, l)]++
				}
			}
		}
	}
	if met[okE] < 300 || met[argE] < 3000 {
		t.Errorf("met are %v", met)
	}
}

func TestLongSchedules(t *testing.T) {
	edges := []int64{1, 2, maxSlot/2 - 1, maxSlot / 2, maxSlot/2 + 1, maxSlot - 3, maxSlot - 2, maxSlot - 1, maxSlot, maxSlot + 1}
	met := map[api.Errno]int{}
	for _, long := range edges[2:] {
		for _, lead := range edges {
			for _, frame := range edges {
				for _, window := range edges {
					met[checkList(t, []api.Stmt{sample.Said("horizon", "t", 0), sample.Said("slot", "nnnn", long, lead, frame, window), sample.Said("tick", "t", 1), sample.Said("nodes", "n", 16)})]++
				}
			}
		}
	}
	if met[okE] < 10 || met[argE] < 1000 {
		t.Errorf("met are %v", met)
	}
}

// Of each number of nodes each word that names some, of each node, in a block and in none.
func TestEachNode(t *testing.T) {
	for many := range int64(maxNodes + 1) {
		for _, word := range words() {
			for place, c := range rows[word].columns {
				for node := range int64(maxNodes + 1) {
					x := rightOf(word)
					if !c.isNode {
						continue
					}
					if x.Nums[place].N = node; word == "delay" {
						x.Nums[1-place].N = 0
					}
					l := parsed(t, world)
					l[0].Nums[0].N = many
					checkList(t, append(l, x))
					checkList(t, append([]api.Stmt{x}, l...))
					block := rightOf("repeat")
					block.Body = []api.Stmt{rightOf("cut"), x}
					checkList(t, append([]api.Stmt{block}, l...))
				}
			}
		}
	}
}

// A channel, how often something is repeated, and what else is above the last node is none.
func TestWhatNamesNoNode(t *testing.T) {
	l := parsed(t, "nodes 2; tick 7ns; slot 100 20 30 10; horizon 9ns; drift 0 99; delay 0 1 99ns; power 1 99ns; guard 1; silence 1 99ns 99ns; corrupt 1 99ns 99ns; cut 1 99ns 99ns; babble 1 99ns; crash 1 99ns; repeat 99 99ns {}")
	if e := checkList(t, l); e != okE {
		t.Errorf("got %d", e)
	}
}

// full is a campaign of all that may stand in it, of as many nodes as there may be.
func full() []api.Stmt {
	c := api.Conf{M: api.Medl{Nodes: maxNodes, Slot: 100, Lead: 20, Frame: 30, Window: 10}, Tick: 1, Drift: make([]int64, maxNodes), Power: make([]int64, maxNodes)}
	for range maxNodes {
		c.Delay = append(c.Delay, make([]int64, maxNodes))
	}
	return toldOf(c, true)
}

// Of all that may stand each one may not stand again, wherever it does, even with another number.
func TestWhatMayStandOnce(t *testing.T) {
	l := full()
	if len(l) != 4+16+16+16*15+1 {
		t.Fatalf("there are %d", len(l))
	}
	if e := checkList(t, l); e != okE {
		t.Fatalf("got %d", e)
	}
	for i, x := range l {
		again := api.Stmt{Word: x.Word, Nums: slices.Clone(x.Nums)}
		if last := len(x.Nums) - 1; i >= 4 {
			again.Nums[last].N = 1
		}
		if at, e := Check(append(slices.Clone(l), again)...); at != len(l) || e != fullE {
			t.Errorf("%s: got %d, %d", sample.Shown([]api.Stmt{x}), at, e)
		}
		if at, e := Check(append([]api.Stmt{again}, l...)...); at != i+1 || e != fullE {
			t.Errorf("%s: got %d, %d", sample.Shown([]api.Stmt{x}), at, e)
		}
	}
}

func TestManyStatements(t *testing.T) {
	crash, block := rightOf("crash"), rightOf("repeat")
	block.Body = slices.Repeat([]api.Stmt{crash}, 500)
	for _, s := range []string{world, "nodes 3;", world + "crash 3 0s;"} {
		for many := maxStmts - 2; many < maxStmts+2; many++ {
			l := parsed(t, s)
			checkList(t, append(l, slices.Repeat([]api.Stmt{crash}, many-len(l))...))
			l = append(parsed(t, s), block, block)
			l = append(l, slices.Repeat([]api.Stmt{crash}, many-parse.Count(l...))...)
			checkList(t, l)
			l[len(l)-1].Nums = sample.Said("crash", "nt", 4, 0).Nums
			checkList(t, l)
			l[len(l)-1] = rightOf("nodes")
			checkList(t, l)
		}
	}
	l := append(parsed(t, "nodes 3;"), slices.Repeat([]api.Stmt{crash}, maxStmts-1)...)
	if at, e := Check(l...); at != maxStmts || e != noneE {
		t.Errorf("got %d, %d", at, e)
	}
}

// In blocks as deep as they may be a statement is one of all.
func TestDeepBlocks(t *testing.T) {
	for _, s := range []string{"crash 2 0s;", "crash 3 0s;", "crash 16 0s;", "odd;", "guard 1;", "nodes 3;", "repeat 1 0s;"} {
		for deep := range 6 {
			inner := s + strings.Repeat("cut 0 0s 0s;", deep)
			text := world + strings.Repeat("repeat 1 0s { ", deep) + inner + strings.Repeat("} crash 1 0s;", deep)
			checkList(t, parsed(t, text))
			checkList(t, parsed(t, "guard 1; "+text))
			checkList(t, parsed(t, text+text))
		}
	}
}

func TestCheckDrawnCampaigns(t *testing.T) {
	for i := range uint64(500) {
		if e := checkList(t, sample.Campaign(i)); e != okE {
			t.Fatalf("%d: got %d", i, e)
		}
	}
}

// faults are what a statement becomes by which a campaign is none, mostly.
func faults(x api.Stmt) []api.Stmt {
	var all []api.Stmt
	change := func(how func(y *api.Stmt)) {
		y := sample.Own([]api.Stmt{x})[0]
		how(&y)
		all = append(all, y)
	}
	change(func(y *api.Stmt) { y.Word += "s" })
	change(func(y *api.Stmt) { y.Word = "guard" })
	change(func(y *api.Stmt) { *y = rightOf("guard") })
	change(func(y *api.Stmt) { *y = rightOf("tick") })
	change(func(y *api.Stmt) { *y = sample.Said("drift", "nn", 1, 1) })
	change(func(y *api.Stmt) { *y = sample.Said("delay", "nnt", 1, 0, 1) })
	change(func(y *api.Stmt) { *y = sample.Said("crash", "nt", 15, 0) })
	change(func(y *api.Stmt) { *y = sample.Said("slot", "nnnn", 16, 2, 2, 3) })
	change(func(y *api.Stmt) { y.Block = true })
	change(func(y *api.Stmt) { y.Block, y.Body = false, nil })
	change(func(y *api.Stmt) { y.Nums = y.Nums[1:] })
	change(func(y *api.Stmt) { y.Nums = append(y.Nums, api.Num{}) })
	change(func(y *api.Stmt) { y.Nums[0].N = 17 })
	change(func(y *api.Stmt) { y.Nums[0].N = 14 })
	change(func(y *api.Stmt) { y.Nums[0].Time = !y.Nums[0].Time })
	change(func(y *api.Stmt) { y.Nums[len(y.Nums)-1].N = 2e17 })
	return all
}

// One statement, or two, that are others, wherever they stand.
func TestSpoiltCampaigns(t *testing.T) {
	met := map[api.Errno]int{}
	for i := range uint64(40) {
		l := sample.Own(sample.Campaign(i))
		var places []*api.Stmt
		sample.Each(l, func(x *api.Stmt) { places = append(places, x) })
		for at := 0; at < len(places); at += 1 + len(places)/12 {
			was := *places[at]
			for j, x := range faults(was) {
				*places[at] = x
				met[checkList(t, l)]++
				// The other one may be the same one, or one that has gone with the block in which it stood.
				other := (at*7 + j*5 + 3) % len(places)
				too := *places[other]
				*places[other] = faults(was)[(j+at)%16]
				met[checkList(t, l)]++
				*places[other] = too
			}
			*places[at] = was
		}
		if e := checkList(t, l); e != okE {
			t.Fatalf("%d: got %d", i, e)
		}
	}
	for _, e := range []api.Errno{okE, argE, formE, fullE, noneE} {
		if met[e] < 100 {
			t.Errorf("of error %d there are %d lists", e, met[e])
		}
	}
}

func TestCheckDrawnStatements(t *testing.T) {
	for i := range uint64(500) {
		checkList(t, sample.Stmts(int(i%40), 1+int(i%8), i))
		checkList(t, append(sample.Campaign(i), sample.Stmts(int(i%5), 2, i)...))
	}
}

func TestCheckChangesNothing(t *testing.T) {
	for i := range uint64(200) {
		// Behind what is handed in there is room, in which something else stands.
		l := append(sample.Campaign(i), sample.Campaign(i+1)...)
		was := sample.Shown(l)
		part := l[:len(sample.Campaign(i))]
		Check(part...)
		Conf(part...)
		Check(l...)
		if got := sample.Shown(l); got != was {
			t.Fatalf("%.400s became %.400s", was, got)
		}
	}
}

// The same is told each time.
func TestCheckTellsTheSameEachTime(t *testing.T) {
	for _, s := range []string{"", "nodes 3;", world, world + "guard 1; guard 1; odd;", world + "crash 9 0s; crash 8 0s;"} {
		l := parsed(t, s)
		first := fmt.Sprint(Check(l...))
		for range 50 {
			if again := fmt.Sprint(Check(l...)); again != first {
				t.Fatalf("%q: got %s, and %s", s, first, again)
			}
		}
	}
}
