package parse

import (
	"slices"
	"strings"
	"testing"

	"pallet/api"
	"pallet/sample"
)

// P15.2

// checkParse holds what Parse answers of a text against what it is to answer, and tells that.
func checkParse(t *testing.T, s string) told {
	t.Helper()
	want := parseOf(s)
	l, at, e := Parse(s)
	if at != want.at || e != want.e || !slices.Equal(sample.Tokens(l), want.tokens) || want.e != 0 && len(l) != 0 {
		t.Fatalf("Parse(%.99q): got %.400s, %v, %d, want %v, %d", s, sample.Shown(l), at, e, want.at, want.e)
	}
	return want
}

func TestParseByHand(t *testing.T) {
	num := func(n int64) api.Num { return api.Num{N: n} }
	for s, want := range map[string][]api.Stmt{
		"":              nil,
		" # a;\n\t":     nil,
		"a;":            {{Word: "a"}},
		"a{}":           {{Word: "a", Block: true}},
		"a;b;":          {{Word: "a"}, {Word: "b"}},
		"a 007 -0 5ns;": {{Word: "a", Nums: []api.Num{num(7), num(0), {N: 5000, Time: true}}}},
		"at 5ns { cut 1; }": {{Word: "at", Nums: []api.Num{{N: 5000, Time: true}}, Block: true, Body: []api.Stmt{
			{Word: "cut", Nums: []api.Num{num(1)}}}}},
		"a{b;c{}}\nd -999999999999999999 #\n;": {{Word: "a", Block: true, Body: []api.Stmt{{Word: "b"}, {Word: "c", Block: true}}},
			{Word: "d", Nums: []api.Num{num(1 - limit)}}},
		"z 1 2 3 4 5 6 7 8;": {{Word: "z", Nums: []api.Num{num(1), num(2), num(3), num(4), num(5), num(6), num(7), num(8)}}},
		"a{b{}c;}d{}":        {{Word: "a", Block: true, Body: []api.Stmt{{Word: "b", Block: true}, {Word: "c"}}}, {Word: "d", Block: true}},
	} {
		l, at, e := Parse(s)
		if sample.Shown(l) != sample.Shown(want) || at != (api.Place{}) || e != api.OK {
			t.Errorf("Parse(%.99q): got %.400s, %v, %d", s, sample.Shown(l), at, e)
		}
		checkParse(t, s)
	}
}

func TestParseFaultsByHand(t *testing.T) {
	type fault struct {
		line, col int
		e         api.Errno
	}
	for s, want := range map[string]fault{
		// What may not stand there.
		"5;": {1, 1, api.ErrForm}, ";": {1, 1, api.ErrForm}, "{}": {1, 1, api.ErrForm}, "}": {1, 1, api.ErrForm},
		"a;;": {1, 3, api.ErrForm}, "a;\n }": {2, 2, api.ErrForm}, "a{}}": {1, 4, api.ErrForm}, "a{};": {1, 4, api.ErrForm},
		"a b": {1, 3, api.ErrForm}, "a 5 b": {1, 5, api.ErrForm}, "a }": {1, 3, api.ErrForm}, "a 5}": {1, 4, api.ErrForm},
		"a{5": {1, 3, api.ErrForm}, "a{;": {1, 3, api.ErrForm}, "a{{": {1, 3, api.ErrForm}, "a{b}": {1, 4, api.ErrForm}, "a{} 5": {1, 5, api.ErrForm},
		"# é\n# é\n a{b;\n\n  é": {5, 3, api.ErrForm},
		// It ends too soon.
		"a": {1, 2, api.ErrShort}, "a 5": {1, 4, api.ErrShort}, "a{": {1, 3, api.ErrShort}, "a{b": {1, 4, api.ErrShort}, "a{b;": {1, 5, api.ErrShort},
		"a{b{}\n": {2, 1, api.ErrShort}, "a # é": {1, 6, api.ErrShort}, "a{}b # é\n\n ": {3, 2, api.ErrShort},
		// There is no room.
		"a 1 2 3 4 5 6 7 8 9 ;": {1, 19, api.ErrFull}, "a{b 1 2 3 4 5 6 7 8\n9": {2, 1, api.ErrFull}, "a 1 2 3 4 5 6 7 8 b": {1, 19, api.ErrForm},
		"a 1 2 3 4 5 6 7 8": {1, 18, api.ErrShort}, "a 1 2 3 4 5 6 7 8 9ns": {1, 19, api.ErrFull},
		// It is too deep.
		"a{a{a{a{a{a{}}}}}}": {1, 12, api.ErrLong}, "a{a{a{a{a{a 5 {": {1, 15, api.ErrLong}, "a{a{a{a{a{a": {1, 12, api.ErrShort}, "a{a{a{a{a{a;{": {1, 13, api.ErrForm},
		"a{a{a{a{a{}a{b{": {1, 15, api.ErrLong},
		// The text is no tokens, wherever else it is wrong, too.
		"a; B": {1, 4, api.ErrForm}, "; 5x": {1, 3, api.ErrForm}, "a b abcdefghijklmnopq": {1, 5, api.ErrLong}, "}\n1000000s": {2, 1, api.ErrOver},
		"a #\xff": {1, 4, api.ErrForm}, "a 1 2 3 4 5 6 7 8 9 1234567890123456789": {1, 21, api.ErrLong},
	} {
		l, at, e := Parse(s)
		if len(l) != 0 || at != (api.Place{Line: want.line, Col: want.col}) || e != want.e {
			t.Errorf("Parse(%.99q): got %.400s, %v, %d, want %v", s, sample.Shown(l), at, e, want)
		}
		checkParse(t, s)
	}
}

func TestParseShortTexts(t *testing.T) {
	sample.EachText(8, func(s string) { checkParse(t, s) })
}

// Short texts behind what is just not too deep, too long, or too much.
func TestParseShortTextsAtTheEdges(t *testing.T) {
	for deep := 1; deep < maxDepth+2; deep++ {
		sample.EachText(5, func(s string) { checkParse(t, strings.Repeat("a{", deep)+s) })
		sample.EachText(4, func(s string) { checkParse(t, strings.Repeat("a{b;c 5{}", deep)+s+strings.Repeat("}", deep)) })
	}
	for nums := 6; nums < maxNums+2; nums++ {
		sample.EachText(5, func(s string) { checkParse(t, "a"+strings.Repeat(" 5", nums)+" "+s) })
		sample.EachText(4, func(s string) { checkParse(t, "a{b; a"+strings.Repeat(" 5s", nums)+" "+s+"}") })
	}
	for many := maxStmts - 3; many < maxStmts+2; many++ {
		sample.EachText(3, func(s string) { checkParse(t, strings.Repeat("a;", many)+s) })
		sample.EachText(2, func(s string) {
			checkParse(t, "a{"+strings.Repeat("a;", many-1)+s+"}")
			checkParse(t, strings.Repeat("a{b{}}", many/2)+strings.Repeat("a;", many%2)+s)
		})
	}
}

func TestParseManyStatements(t *testing.T) {
	for s, want := range map[string]api.Errno{
		strings.Repeat("a;", maxStmts):                        api.OK,
		strings.Repeat("a;", maxStmts) + "a":                  api.ErrFull,
		"a{" + strings.Repeat("b;", maxStmts-1) + "}":         api.OK,
		"a{" + strings.Repeat("b;", maxStmts) + "}":           api.ErrFull,
		strings.Repeat("a{b;c{}}", 666) + "a;a;":              api.OK,
		strings.Repeat("a{b;c{}}", 666) + "a;a;a;":            api.ErrFull,
		strings.Repeat("a{}", maxStmts):                       api.OK,
		strings.Repeat("a 1 2 3 4 5 6 7 8;", maxStmts):        api.OK,
		strings.Repeat("a 1 2 3 4 5 6 7 8;", maxStmts) + " 5": api.ErrForm,
		strings.Repeat("a;", maxStmts) + "}":                  api.ErrForm,
		strings.Repeat("a;", maxStmts-1) + "a":                api.ErrShort,
		strings.Repeat("a{", maxStmts):                        api.ErrLong,
	} {
		if got := checkParse(t, s); got.e != want {
			t.Errorf("%.20q..: got %d", s, got.e)
		}
	}
}

func TestParseLongTexts(t *testing.T) {
	behind := strings.Repeat(" ", maxText-2)
	for s, want := range map[string]told{
		"a;" + behind:        {e: api.OK},
		"a;" + behind + " ":  {e: api.ErrLong, at: api.Place{Line: 1, Col: 1}},
		"5;" + behind + "\n": {e: api.ErrLong, at: api.Place{Line: 1, Col: 1}},
		"a " + behind:        {e: api.ErrShort, at: api.Place{Line: 1, Col: maxText + 1}},
		"a\n" + behind:       {e: api.ErrShort, at: api.Place{Line: 2, Col: maxText - 1}},
		behind + "}\n":       {e: api.ErrForm, at: api.Place{Line: 1, Col: maxText - 1}},
	} {
		if got := checkParse(t, s); got.e != want.e || got.at != want.at {
			t.Errorf("%.5q..: got %v, %d", s, got.at, got.e)
		}
	}
}

func TestParseDrawnTexts(t *testing.T) {
	met := map[api.Errno]int{}
	for i := range uint64(20000) {
		met[checkParse(t, sample.Text(i)).e]++
	}
	for e, least := range map[api.Errno]int{api.OK: 5000, api.ErrForm: 500, api.ErrShort: 500, api.ErrFull: 50, api.ErrLong: 50, api.ErrOver: 50} {
		if met[e] < least {
			t.Errorf("of error %d there are %d texts", e, met[e])
		}
	}
}

// Parse ends at whatever bytes there are.
func TestParseEachTwoBytes(t *testing.T) {
	for i := range 1 << 16 {
		s := string([]byte{byte(i >> 8), byte(i)})
		checkParse(t, s)
		checkParse(t, "a{"+s+"}")
	}
}

// What is told is the caller's own, and no part of the text.
func TestParseTellsWhatIsNew(t *testing.T) {
	for i := range uint64(200) {
		s := sample.Text(i)
		l, _, _ := Parse(s)
		was := sample.Shown(l)
		other, _, _ := Parse(s)
		sample.Visit(other, 1, func(x api.Stmt, deep int) {
			if isPieceOf(x.Word, s) {
				t.Fatalf("%.99q stands in the text that was handed in", x.Word)
			}
		})
		sample.Spoil(other)
		if sample.Shown(l) != was {
			t.Fatalf("%.400s became %.400s", was, sample.Shown(l))
		}
		checkParse(t, s)
	}
}

// No list of an answer has room that is another one's.
func TestParsedListsShareNothing(t *testing.T) {
	const s = "a 1 2 3{b 4 5 6; c 7{d; e;} f;} g 8 9; h{i;}"
	l, _, _ := Parse(s)
	want := sample.Shown(l)
	sample.Visit(l, 1, func(x api.Stmt, deep int) {
		_ = append(x.Nums, api.Num{N: 99})
		_ = append(x.Body, api.Stmt{Word: "spoilt"})
	})
	if got := sample.Shown(l); got != want {
		t.Errorf("%.400s became %.400s", want, got)
	}
}
