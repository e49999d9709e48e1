package table

import (
	"fmt"
	"slices"
	"strings"
	"testing"

	"pallet/api"
	"pallet/check"
	"pallet/drawn"
	"pallet/lex"
	"pallet/parse"
	"pallet/print"
	"pallet/sample"
)

// P18.3

func TestCompileByHand(t *testing.T) {
	s := "# a world of three, and what is injected\nnodes 3; tick 1ns; slot 100 20 30 10; horizon 1ms;\ndrift 1 -50; guard 1;\nrepeat 2 10ns { crash 1 5ns; }\nsilence 0 7us 1us;"
	c, l, at, e := Compile(s)
	want := api.Conf{M: api.Medl{Nodes: 3, Slot: 100, Lead: 20, Frame: 30, Window: 10}, Tick: 1000, Horizon: 1000000000, Drift: []int64{0, -50, 0}, Power: []int64{0, 0, 0}, Delay: [][]int64{{0, 0, 0}, {0, 0, 0}, {0, 0, 0}}, Guard: true}
	injected := []api.Inj{{At: 5000, Kind: crashI, Who: 1, Until: 5000}, {At: 15000, Kind: crashI, Who: 1, Until: 15000}, {At: 7000000, Kind: silenceI, Until: 8000000}}
	if fmt.Sprint(c) != fmt.Sprint(want) || !same(l, injected) || at != (api.Place{}) || e != okE {
		t.Errorf("got %v, %v, %v, %d", c, l, at, e)
	}
	if c, l, at, e := Compile(world); c.M.Nodes != 3 || len(l) != 0 || at != (api.Place{}) || e != okE {
		t.Errorf("got %v, %v, %v, %d", c, l, at, e)
	}
	checkText(t, s)
	checkText(t, world)
}

func TestCompileOfWrongTexts(t *testing.T) {
	for s, want := range map[string]struct {
		line, col int
		e         api.Errno
	}{
		// What parse.Parse tells.
		"A":                                {1, 1, formE},
		"\xff":                             {1, 1, formE},
		world + "\n\tcrash 0 5x;":          {2, 10, formE},
		world + "\ncrash 0 1000000s;":      {2, 9, overE},
		world + "\nabcdefghijklmnopq;":     {2, 1, longE},
		world + "\ncrash 0 0s":             {2, 11, shortE},
		world + "\nrepeat 1 0s {\n":        {3, 1, shortE},
		world + "} crash 9 0s;":            {1, 52, formE},
		world + "\nodd 1 2 3 4 5 6 7 8 9;": {2, 21, fullE},
		world + "\na{a{a{a{a{a{}":          {2, 12, longE},
		strings.Repeat("a;", 2001):         {1, 4001, fullE},
		strings.Repeat(" ", 65537):         {1, 1, longE},
		// What check.Conf tells, at the word; at what is behind the text, if it is told of none that stands.
		"":                {1, 1, noneE},
		"# nodes 3;":      {1, 11, noneE},
		" \n  ":           {2, 3, noneE},
		"nodes 3;":        {1, 9, noneE},
		"nodes 3;\n# é é": {2, 6, noneE},
		"crash 9 0s;\nrepeat 2 0s { crash 0 0s; }\n": {3, 1, noneE},
		"nodes 3;\n tick 1;":                         {2, 2, formE},
		" nodes 1;":                                  {1, 2, argE},
		"#é\n\té":                                    {2, 2, formE},
		world + "# crash 9 0s;\n tick 1ns;":          {2, 2, fullE},
		world + "\n# crash\ncrash 0 0s; crash 3 0s;": {3, 13, argE},
		world + "repeat 1 0s {\n  repeat 1 0s { # repeat\n guard 1; }}": {3, 2, formE},
		world + "\nrepeat 1 0s {} odd {} odd {}":                        {2, 16, formE},
		"nodes 2; tick 1ns;\n  slot 100 50 30 20; horizon 1ms;":         {2, 3, argE},
		"slot\n16 2\n2 3; nodes 2; tick 1ns; horizon 1ms;":              {1, 1, argE},
		// What Table tells.
		world + "\nrepeat 501 0s {\n\n\tcrash 0 0s; }":                               {4, 2, fullE},
		world + "\nrepeat 500 0s { crash 0 0s; }\n# one more\n   cut 0 0s 0s;":       {4, 4, fullE},
		world + "repeat 500 0s { crash 0 0s; crash\n0 0s; } crash 0 0s;":             {1, 80, fullE},
		world + "\n# é\nrepeat 250 0s { cut 1 0s 0s; crash 0 0s; } # é\ncrash 1 0s;": {4, 1, fullE},
	} {
		c, l, at, e := Compile(s)
		if fmt.Sprint(c) != fmt.Sprint(api.Conf{}) || l != nil || at != (api.Place{Line: want.line, Col: want.col}) || e != want.e {
			t.Errorf("Compile(%.200q): got %v, %v, %v, %d, want %v", s, c, l, at, e, want)
		}
		checkText(t, s)
	}
}

// texts are campaigns' texts, as they are printed, and with other things between their tokens.
func texts(t *testing.T, l []api.Stmt, from uint64) []string {
	t.Helper()
	s, e := print.Print(l...)
	if e != okE {
		return nil
	}
	tokens, _, _, _ := lex.Cut(s)
	between := []string{" ", "\n", "\t", "\n\n ", " # é crash 0 0s;\n", "  ", "\n#\n"}
	var b strings.Builder
	for i, n := range drawn.Numbers(len(tokens), from) {
		b.WriteString(between[n%uint64(len(between))])
		b.WriteString(tokens[i].S)
	}
	loose := b.String()
	return []string{s, loose, loose + " ", loose + "\n# é", strings.TrimSpace(s), strings.Join(strings.Fields(s), " ")}
}

func TestCompileOfDrawnCampaigns(t *testing.T) {
	met := map[api.Errno]int{}
	for i := range uint64(150) {
		for _, l := range [][]api.Stmt{sample.Campaign(i), campaign(i, 3)} {
			for _, s := range texts(t, l, i) {
				met[checkText(t, s)]++
			}
		}
	}
	if met[okE] < 500 || met[fullE] < 100 {
		t.Errorf("met are %v", met)
	}
}

// Each statement, wherever it stands, that is another one: it, or another one, is told by its place.
func TestCompileOfSpoiltCampaigns(t *testing.T) {
	met := map[api.Errno]int{}
	others := []api.Stmt{sample.Said("tick", "t", 1), sample.Said("odd", ""), sample.Said("guard", "n", 2), sample.Said("crash", "nt", 15, 5), sample.Said("slot", "nnnn", 16, 2, 2, 3), repeat(1000, 0, repeat(1000, 0), sample.Said("crash", "nt", 0, 5))}
	for i := range uint64(20) {
		l := campaign(i, 3)
		var places []*api.Stmt
		sample.Each(l, func(x *api.Stmt) { places = append(places, x) })
		for at := 0; at < len(places); at += 1 + len(places)/8 {
			was := *places[at]
			for _, x := range others {
				*places[at] = x
				// One that is too deep has no texts.
				if s := texts(t, l, i); s != nil {
					met[checkText(t, s[0])]++
					met[checkText(t, s[1])]++
				}
			}
			*places[at] = was
		}
	}
	for _, e := range []api.Errno{argE, formE, fullE, noneE} {
		if met[e] < 20 {
			t.Errorf("met are %v", met)
		}
	}
}

// Texts of which pieces are cut out, or stand twice.
func TestCompileOfBrokenTexts(t *testing.T) {
	met := map[api.Errno]int{}
	for i := range uint64(60) {
		checkText(t, sample.Text(i))
		checkText(t, world+sample.Text(i))
		s := texts(t, campaign(i, 3), i)[1]
		for _, n := range drawn.Numbers(30, i) {
			at := int(n % uint64(len(s)))
			end := min(len(s), at+1+int(n>>20%9))
			met[checkText(t, s[:at])]++
			met[checkText(t, s[:at]+s[end:])]++
			met[checkText(t, s[:end]+s[at:])]++
		}
	}
	for _, e := range []api.Errno{okE, argE, shortE, formE, noneE} {
		if met[e] < 20 {
			t.Errorf("met are %v", met)
		}
	}
}

// A text of as many bytes as there may be, and of one more.
func TestLongTexts(t *testing.T) {
	s := world + "crash 0 5ns;"
	for _, more := range []string{"", "crash 0 0s;", "crash 9 0s;", "tick 1ns;"} {
		for long := 65534; long < 65539; long++ {
			fill := strings.Repeat(" ", long-len(s)-len(more))
			e := checkText(t, s+fill+more)
			if (e == longE) != (long > 65536) {
				t.Errorf("%d: got %d", long, e)
			}
			checkText(t, s+"#"+fill[2:]+"\n"+more)
		}
	}
}

// What Compile tells is what check.Conf and Table tell of the statements.
func TestCompileIsConfAndTable(t *testing.T) {
	for i := range uint64(150) {
		l := campaign(i, 1+int64(i%7))
		s := texts(t, l, i)[1]
		again, _, _ := parse.Parse(s)
		if !parse.Same(l, again) {
			t.Fatalf("%d: its text is another one's", i)
		}
		c, all, _, e := Compile(s)
		wantAll, _, want := Table(l...)
		if e != want || e == okE && !same(all, wantAll) {
			t.Fatalf("%d: got %v, %d, want %v, %d", i, all, e, wantAll, want)
		}
		if conf, _, _ := check.Conf(l...); e == okE && !check.Same(c, conf) {
			t.Fatalf("%d: got %v, want %v", i, c, conf)
		}
	}
}

// What is told is the caller's own.
func TestCompileTellsWhatIsNew(t *testing.T) {
	s := texts(t, campaign(3, 3), 3)[0]
	c, l, _, e := Compile(s)
	want, all := fmt.Sprint(c), slices.Clone(l)
	if e != okE || len(all) == 0 {
		t.Fatalf("got %v, %d", l, e)
	}
	other, injected, _, _ := Compile(s)
	for i := range other.Delay {
		other.Delay[i][0] = -1
		other.Drift[i], other.Power[i] = -1, -1
	}
	for i := range injected {
		injected[i] = api.Inj{}
	}
	again, more, _, _ := Compile(s)
	if fmt.Sprint(c) != want || fmt.Sprint(again) != want || !same(l, all) || !same(more, all) {
		t.Errorf("%s became %v, and %v", want, c, again)
	}
}
