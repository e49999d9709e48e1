package table

import (
	"fmt"
	"slices"
	"strconv"
	"strings"
	"testing"

	"pallet/api"
	"pallet/check"
	"pallet/drawn"
	"pallet/parse"
	"pallet/sample"
)

// P18.1: Table

func TestTableByHand(t *testing.T) {
	for s, want := range map[string][]api.Inj{
		"":                             nil,
		"guard 1;":                     nil,
		"repeat 1000 1s {}":            nil,
		"silence 2 5ps 7ps;":           {{At: 5, Kind: silenceI, Who: 2, Until: 12}},
		"corrupt 1 6ps 8ps;":           {{At: 6, Kind: corruptI, Who: 1, Until: 14}},
		"cut 1 7ps 9ps;":               {{At: 7, Kind: cutI, Who: 1, Until: 16}},
		"babble 2 8ps;":                {{At: 8, Kind: babbleI, Who: 2, Until: 8}},
		"crash 0 9ps;":                 {{At: 9, Kind: crashI, Who: 0, Until: 9}},
		"silence 0 5ps 0s;":            {{At: 5, Kind: silenceI, Until: 5}},
		"cut 0 0s 0s;":                 {{Kind: cutI}},
		"crash 0 0s;":                  {{Kind: crashI}},
		"crash 1 5ns; crash 1 5ns;":    {{At: 5000, Kind: crashI, Who: 1, Until: 5000}, {At: 5000, Kind: crashI, Who: 1, Until: 5000}},
		"repeat 2 10ns {crash 1 5ns;}": {{At: 5000, Kind: crashI, Who: 1, Until: 5000}, {At: 15000, Kind: crashI, Who: 1, Until: 15000}},
		"repeat 1 10ns {cut 1 5ns 1ns;}": {
			{At: 5000, Kind: cutI, Who: 1, Until: 6000},
		},
		"repeat 3 0s {corrupt 1 5ns 1ns;}": {
			{At: 5000, Kind: corruptI, Who: 1, Until: 6000},
			{At: 5000, Kind: corruptI, Who: 1, Until: 6000},
			{At: 5000, Kind: corruptI, Who: 1, Until: 6000},
		},
		// The one within is there four times, with 0, 3, 10, 13 more; the one behind it in the outer block twice.
		"repeat 2 10ps { repeat 2 3ps { silence 0 1ps 2ps; } babble 1 4ps; } crash 2 5ps;": {
			{At: 1, Kind: silenceI, Until: 3},
			{At: 4, Kind: silenceI, Until: 6},
			{At: 4, Kind: babbleI, Who: 1, Until: 4},
			{At: 5, Kind: crashI, Who: 2, Until: 5},
			{At: 11, Kind: silenceI, Until: 13},
			{At: 14, Kind: silenceI, Until: 16},
			{At: 14, Kind: babbleI, Who: 1, Until: 14},
		},
		// By At, then by Kind, Who, Until.
		"crash 0 1ps; babble 0 1ps; cut 0 1ps 1ps; corrupt 0 1ps 1ps; silence 2 1ps 1ps; silence 1 1ps 9ps; silence 1 1ps 8ps; crash 2 0s;": {
			{At: 0, Kind: crashI, Who: 2, Until: 0},
			{At: 1, Kind: silenceI, Who: 1, Until: 9},
			{At: 1, Kind: silenceI, Who: 1, Until: 10},
			{At: 1, Kind: silenceI, Who: 2, Until: 2},
			{At: 1, Kind: corruptI, Until: 2},
			{At: 1, Kind: cutI, Until: 2},
			{At: 1, Kind: babbleI, Until: 1},
			{At: 1, Kind: crashI, Until: 1},
		},
	} {
		for _, text := range []string{world + s, s + world} {
			l := parsed(t, text)
			if got, at, e := Table(l...); !same(got, want) || at != 0 || e != okE {
				t.Errorf("Table(%q): got %v, %d, %d, want %v", text, got, at, e, want)
			}
			checkTable(t, l)
		}
	}
}

func TestTableThatIsTooFull(t *testing.T) {
	for s, at := range map[string]int{
		"repeat 501 0s { crash 0 0s; }":                                              5,
		"repeat 1000 0s { crash 0 0s; }":                                             5,
		"crash 0 0s; repeat 500 0s { crash 0 0s; }":                                  6,
		"repeat 500 0s { crash 0 0s; } guard 1; crash 0 0s;":                         7,
		"repeat 500 0s { crash 0 0s; cut 0 0s 0s; }":                                 6,
		"repeat 250 0s { crash 0 0s; cut 0 0s 0s; babble 0 0s; crash 0 0s; }":        7,
		"repeat 2 0s { repeat 250 0s { crash 0 0s; } repeat 1 0s { crash 0 0s; } }":  8,
		"repeat 2 0s { crash 0 0s; repeat 250 0s { crash 0 0s; } }":                  7,
		"repeat 23 0s { repeat 22 0s { crash 0 0s; } }":                              6,
		"repeat 1000 0s { repeat 1000 0s { repeat 1000 0s {} crash 0 0s; } }":        7,
		"repeat 1000 0s { repeat 1000 0s {} } repeat 501 0s {} crash 0 0s; nodes 3;": -1,
		"repeat 1000 0s {} repeat 501 0s { guard 1; }":                               -2,
		"repeat 1000 1125s { repeat 1000 1125s { repeat 1000 1125s { repeat 1000 1125s { repeat 1000 1125s { silence 0 1125s 1125s; } } } } }": 9,
	} {
		l := parsed(t, world+s)
		switch got, i, e := Table(l...); {
		case at == -1 && (i != 8 || e != fullE), at == -2 && (i != 6 || e != formE):
			t.Errorf("%q: got %d, %d: what check.Check tells comes first", s, i, e)
		case at >= 0 && (i != at || e != fullE || got != nil):
			t.Errorf("%q: got %v, %d, %d, want %d", s, got, i, e, at)
		}
		checkTable(t, l)
	}
}

// As many as there may be, and one more, told in all ways of two repeats, one in the other, and some more beside them.
func TestAboutAsManyAsThereMayBe(t *testing.T) {
	met := map[api.Errno]int{}
	for outer := int64(1); outer <= 502; outer++ {
		for inner := maxInj/outer - 1; inner <= maxInj/outer+1; inner++ {
			if inner < 1 || outer > 40 && inner > 1 && outer%7 > 0 {
				continue
			}
			for more := range 3 {
				block := repeat(outer, 3, repeat(inner, 1000, sample.Said("crash", "nt", 1, 5)))
				l := append(parsed(t, world), block)
				l = append(l, slices.Repeat([]api.Stmt{sample.Said("babble", "nt", 2, 700)}, more)...)
				met[checkTable(t, l)]++
				slices.Reverse(l)
				met[checkTable(t, l)]++
			}
		}
	}
	if met[okE] < 100 || met[fullE] < 100 {
		t.Errorf("met are %v", met)
	}
}

// One by one, up to as many, and one more.
func TestOneByOne(t *testing.T) {
	for many := range 503 {
		if many > 20 && many < 495 && many%50 > 0 {
			continue
		}
		l := parsed(t, world)
		for i := range many {
			l = append(l, sample.Said("silence", "ntt", int64(i%3), int64(1000-i), int64(i)))
		}
		if e := checkTable(t, l); (e == okE) != (many <= maxInj) {
			t.Errorf("%d: got %d", many, e)
		}
	}
}

// All lists of up to 4 of these, with blocks around them in all ways.
func TestEachShortCampaign(t *testing.T) {
	some := []api.Stmt{
		sample.Said("crash", "nt", 1, 3), sample.Said("cut", "ntt", 1, 1, 2), repeat(2, 1),
		sample.Said("guard", "n", 1), repeat(30, 2), sample.Said("babble", "nt", 0, 3),
	}
	must := parsed(t, world)
	met := map[api.Errno]int{}
	var each func(many int, hand func(l []api.Stmt))
	each = func(many int, hand func(l []api.Stmt)) {
		if many == 0 {
			hand(nil)
			return
		}
		for _, x := range some {
			for within := range many {
				if within > 0 && !x.Block {
					break
				}
				each(within, func(body []api.Stmt) {
					each(many-1-within, func(others []api.Stmt) {
						y := x
						y.Body = body
						hand(append([]api.Stmt{y}, others...))
					})
				})
			}
		}
	}
	for many := range 5 {
		each(many, func(l []api.Stmt) {
			met[checkTable(t, append(slices.Clip(must), l...))]++
			if many < 4 {
				met[checkTable(t, append(slices.Clip(l), must...))]++
			}
		})
	}
	for _, e := range []api.Errno{okE, fullE, formE} {
		if met[e] < 30 {
			t.Errorf("met are %v", met)
		}
	}
}

// At the greatest times all stay times.
func TestGreatestTimes(t *testing.T) {
	last := sample.Said("silence", "ntt", 0, maxHorizon, maxHorizon)
	for _, often := range [][]int64{{1}, {2}, {500}, {2, 250}, {250, 2}, {22, 22}, {7, 7, 7}, {3, 3, 3, 3, 3}, {1, 1, 500, 1, 1}, {1, 1, 1, 1, 500}} {
		x, far := last, int64(1)
		for _, n := range often {
			x = repeat(n, maxHorizon, x)
			far += n - 1
		}
		l := append(parsed(t, world), x)
		if e := checkTable(t, l); e != okE {
			t.Errorf("%v: got %d", often, e)
		}
		got, _, _ := Table(l...)
		if x := got[len(got)-1]; x.At != far*maxHorizon || x.Until != (far+1)*maxHorizon || Check(got...) != okE {
			t.Errorf("%v: got %v", often, x)
		}
	}
}

// What check.Check tells is told, wherever it is.
func TestTableOfWhatIsNoCampaign(t *testing.T) {
	for _, s := range []string{
		"", "nodes 3;", "crash 0 0s;", "repeat 2 0s { crash 0 0s; } guard 1;", world + "nodes 3;", world + "crash 3 0s;", world + "odd;", world + "crash 0;",
		world + "crash 0 0s 0s;", world + "silence 0 0s;", world + "crash 16 0s;", world + "cut 2 0s 0s;", world + "repeat 0 0s {}", world + "repeat 1001 0s {}", world + "repeat 1 0s;",
		world + "crash 0 0s {}", world + "repeat 2 0s { nodes 3; }", world + "repeat 1000 0s { crash 0 0s; crash 3 0s; }", world + "repeat 1000 0s { crash 0 0s; } odd;",
		"nodes 3; tick 1ns; slot 100 50 30 20; horizon 1ms; crash 0 0s;",
	} {
		l := parsed(t, s)
		at, want := check.Check(l...)
		if got, i, e := Table(l...); got != nil || i != at || e != want || e == okE {
			t.Errorf("%q: got %v, %d, %d, want %d, %d", s, got, i, e, at, want)
		}
		checkTable(t, l)
	}
	// No text tells of these.
	within := []api.Stmt{{Word: "repeat", Nums: sample.Said("", "nt", 2, 0).Nums, Block: true}}
	within[0].Body = within
	for i, l := range [][]api.Stmt{within, {{Word: "Crash"}}, {{Word: "a", Body: []api.Stmt{{Word: "a"}}}}, make([]api.Stmt, 2001)} {
		if got, at, e := Table(l...); got != nil || at != 0 || e != argE {
			t.Errorf("%d: got %v, %d, %d", i, got, at, e)
		}
	}
}

// As many statements as there may be, many of which inject nothing.
func TestManyStatements(t *testing.T) {
	for many := 1990; many < 2003; many++ {
		l := append(parsed(t, world), sample.Said("crash", "nt", 0, 0))
		blocks := slices.Repeat([]api.Stmt{repeat(1000, 7)}, many-parse.Count(l...)-2)
		checkTable(t, append(slices.Clone(l), repeat(1000, 5, repeat(1000, 5, blocks...))))
		last := slices.Repeat([]api.Stmt{sample.Said("babble", "nt", 1, 0)}, 3)
		checkTable(t, append(slices.Clone(l), repeat(250, 5, slices.Concat(blocks[3:], last)...)))
		checkTable(t, append(append(slices.Clone(l), repeat(166, 5, last...)), blocks[3:]...))
	}
}

func TestTableOfDrawnCampaigns(t *testing.T) {
	met := map[api.Errno]int{}
	for i := range uint64(600) {
		met[checkTable(t, sample.Campaign(i))]++
		met[checkTable(t, campaign(i, 2+int64(i%9)))]++
		checkTable(t, sample.Stmts(int(i%40), 1+int(i%8), i))
		checkTable(t, append(campaign(i, 3), sample.Stmts(int(i%5), 2, i)...))
	}
	if met[okE] < 500 || met[fullE] < 50 {
		t.Errorf("met are %v", met)
	}
}

// Numbers of statements that are others, one by one.
func TestSpoiltCampaigns(t *testing.T) {
	met := map[api.Errno]int{}
	for i := range uint64(30) {
		l := campaign(i, 3)
		var nums []*api.Num
		sample.Each(l, func(x *api.Stmt) {
			for j := range x.Nums {
				nums = append(nums, &x.Nums[j])
			}
		})
		row := drawn.Numbers(len(nums), i)
		for j := 0; j < len(nums); j += 1 + len(nums)/40 {
			was := *nums[j]
			for _, n := range []int64{0, 1, 2, 15, 16, 500, 501, 1000, 1001, maxHorizon, maxHorizon + 1, -1, int64(row[j] % 1000)} {
				nums[j].N = n
				met[checkTable(t, l)]++
			}
			*nums[j] = api.Num{N: was.N, Time: !was.Time}
			met[checkTable(t, l)]++
			*nums[j] = was
		}
	}
	for _, e := range []api.Errno{okE, argE, formE, fullE} {
		if met[e] < 50 {
			t.Errorf("met are %v", met)
		}
	}
}

func TestTableChangesNothing(t *testing.T) {
	for i := range uint64(200) {
		// Behind what is handed in there is room, in which something else stands.
		l := append(campaign(i, 3), campaign(i+1, 3)...)
		was := sample.Shown(l)
		Table(l[:len(campaign(i, 3))]...)
		Table(l...)
		if got := sample.Shown(l); got != was {
			t.Fatalf("%.400s became %.400s", was, got)
		}
	}
}

func TestTableIsNew(t *testing.T) {
	for i := range uint64(100) {
		l := campaign(i, 3)
		got, _, _ := Table(l...)
		want := slices.Clone(got)
		other, _, _ := Table(l...)
		for j := range other {
			other[j] = api.Inj{At: -1}
		}
		_ = append(other, api.Inj{At: -2})
		sample.Spoil(l)
		if !same(got, want) {
			t.Fatalf("%v became %v", want, got)
		}
		if again, _, _ := Table(campaign(i, 3)...); !same(again, want) {
			t.Fatalf("%v became %v", want, again)
		}
	}
}

// The same is told each time.
func TestTableTellsTheSameEachTime(t *testing.T) {
	for _, s := range []string{"", world + "crash 9 0s;", world + strings.Repeat("crash 1 1s; cut 1 1s 1s; crash 0 1s; silence 1 1s 2s; silence 1 1s 1s;", 20), world + "repeat 9 1s { repeat 99 1s { cut 0 0s 0s; } }"} {
		l := parsed(t, s)
		first := fmt.Sprint(Table(l...))
		for range 20 {
			if again := fmt.Sprint(Table(l...)); again != first {
				t.Fatalf("%q: got %s, and %s", s, first, again)
			}
		}
	}
}

// Of nodes and channels each one.
func TestEachNode(t *testing.T) {
	for _, word := range []string{"silence", "corrupt", "cut", "babble", "crash"} {
		for who := range 17 {
			s := "nodes 16; tick 1ns; slot 100 20 30 10; horizon 1ms; " + word + " " + strconv.Itoa(who) + " 1ps 2ps;"
			if word == "babble" || word == "crash" {
				s = strings.Replace(s, " 2ps;", ";", 1)
			}
			l := parsed(t, s)
			is := who < 16 && (who < 2 || word != "cut")
			if e := checkTable(t, l); (e == okE) != is {
				t.Errorf("%q: got %d", s, e)
			}
			if got, _, _ := Table(l...); is && (len(got) != 1 || got[0].Who != who) {
				t.Errorf("%q: got %v", s, got)
			}
		}
	}
}
