package print

import (
	"slices"
	"strings"
	"testing"

	"pallet/api"
	"pallet/sample"
)

// P16.1

func TestLineByHand(t *testing.T) {
	num := func(n int64) api.Num { return api.Num{N: n} }
	long := func(n int64) api.Num { return api.Num{N: n, Time: true} }
	for i, x := range []struct {
		x    api.Stmt
		want string
	}{
		{api.Stmt{Word: "a"}, "a;"},
		{api.Stmt{Word: "a", Block: true}, "a {"},
		{api.Stmt{Word: "cut9", Nums: []api.Num{num(1)}}, "cut9 1;"},
		{api.Stmt{Word: "at", Nums: []api.Num{long(5000)}, Block: true, Body: []api.Stmt{{Word: "cut"}, {Word: "c", Block: true}}}, "at 5ns {"},
		{api.Stmt{Word: "a", Nums: []api.Num{num(0), num(-1), num(7000), num(limit - 1), num(1 - limit)}}, "a 0 -1 7000 999999999999999999 -999999999999999999;"},
		{api.Stmt{Word: "a", Nums: []api.Num{long(0), long(-1), long(7000), long(-7000000), long(limit - 1), long(1 - limit)}}, "a 0ps -1ps 7ns -7us 999999999999999999ps -999999999999999999ps;"},
		{api.Stmt{Word: "a", Nums: []api.Num{long(3000000000), long(-4000000000000), long(999999000000000000)}, Block: true}, "a 3ms -4s 999999s {"},
		{api.Stmt{Word: "z", Nums: []api.Num{num(1), num(2), num(3), num(4), num(5), num(6), num(7), long(8)}}, "z 1 2 3 4 5 6 7 8ps;"},
	} {
		if s, e := Line(x.x); s != x.want || e != api.OK {
			t.Errorf("%d: got %.99q, %d", i, s, e)
		}
		checkPrint(t, []api.Stmt{x.x})
	}
}

// A statement's Body plays no part in its line, but that it may be.
func TestLineOfABody(t *testing.T) {
	wrong, right := wrongs()
	for _, x := range right {
		for _, y := range []api.Stmt{b(x), b(b(x), a()), {Word: "a", Nums: []api.Num{{N: 7}}, Block: true, Body: []api.Stmt{x}}} {
			want, e := lineOf(y)
			if s, got := Line(y); s != want || got != e || e == okE && !strings.HasSuffix(s, " {") {
				t.Errorf("%.400s: got %.99q, %d, want %.99q, %d", sample.Shown([]api.Stmt{y}), s, got, want, e)
			}
		}
	}
	for _, x := range wrong {
		if s, e := Line(b(x)); s != "" || e != api.ErrArg {
			t.Errorf("%.400s in a block: got %.99q, %d", sample.Shown([]api.Stmt{x}), s, e)
		}
	}
}

func TestWhatMayNotBe(t *testing.T) {
	wrong, right := wrongs()
	for _, x := range wrong {
		if s, e := Line(x); s != "" || e != api.ErrArg {
			t.Errorf("Line(%.400s): got %.99q, %d", sample.Shown([]api.Stmt{x}), s, e)
		}
		for _, l := range sample.Places(x) {
			if s, e := Print(l...); s != "" || e != api.ErrArg {
				t.Errorf("Print(%.400s): got %.99q, %d", sample.Shown(l), s, e)
			}
			checkPrint(t, l)
		}
	}
	for _, x := range right {
		if s, e := Line(x); s == "" || e != api.OK {
			t.Errorf("Line(%.400s): got %.99q, %d", sample.Shown([]api.Stmt{x}), s, e)
		}
		if s, e := Print(x); s == "" || e != api.OK {
			t.Errorf("Print(%.400s): got %.99q, %d", sample.Shown([]api.Stmt{x}), s, e)
		}
		for _, l := range sample.Places(x) {
			checkPrint(t, l)
		}
	}
}

// Statements that stand in their own blocks may not be; and there is an end to telling that.
func TestStatementsInThemselves(t *testing.T) {
	l := []api.Stmt{b(), b()}
	l[1].Body = l
	for _, x := range []api.Stmt{l[1], b(l...)} {
		if s, e := Line(x); s != "" || e != api.ErrArg {
			t.Errorf("Line: got %.99q, %d", s, e)
		}
		if s, e := Print(x); s != "" || e != api.ErrArg {
			t.Errorf("Print: got %.99q, %d", s, e)
		}
	}
}

// P16.2

func TestPrintByHand(t *testing.T) {
	at := api.Stmt{Word: "at", Nums: []api.Num{{N: 5000, Time: true}}, Block: true, Body: []api.Stmt{a(), {Word: "cut", Nums: []api.Num{{N: 1}}}}}
	for i, x := range []struct {
		l    []api.Stmt
		want string
	}{
		{nil, ""},
		{[]api.Stmt{}, ""},
		{[]api.Stmt{a()}, "a;\n"},
		{[]api.Stmt{a(), a()}, "a;\na;\n"},
		{[]api.Stmt{b()}, "b {\n}\n"},
		{[]api.Stmt{b(a())}, "b {\n  a;\n}\n"},
		{[]api.Stmt{at, a()}, "at 5ns {\n  a;\n  cut 1;\n}\na;\n"},
		{[]api.Stmt{a(), b(at, b()), b(), a()}, "a;\nb {\n  at 5ns {\n    a;\n    cut 1;\n  }\n  b {\n  }\n}\nb {\n}\na;\n"},
		{sample.Nested(6, false), "a {\n  a {\n    a {\n      a {\n        a {\n          a;\n        }\n      }\n    }\n  }\n}\n"},
		{sample.Nested(5, true), "a {\n  a {\n    a {\n      a {\n        a {\n        }\n      }\n    }\n  }\n}\n"},
	} {
		if s, e := Print(x.l...); s != x.want || e != api.OK {
			t.Errorf("%d: got %.400q, %d", i, s, e)
		}
		checkPrint(t, x.l)
	}
}

func TestPrintEachSmallList(t *testing.T) {
	for many := range 8 {
		sample.EachList(many, func(l []api.Stmt) { checkPrint(t, l) })
	}
}

func TestPrintDrawnStatements(t *testing.T) {
	for i := range uint64(2000) {
		checkPrint(t, sample.Stmts(int(i%60), 1+int(i%(maxDepth+1)), i))
	}
}

// A part that may not be spoils all, wherever it stands.
func TestOneWrongPart(t *testing.T) {
	wrong, _ := wrongs()
	for i := range uint64(100) {
		l := sample.Stmts(1+int(i%20), 1+int(i%maxDepth), i)
		sample.Each(l, func(x *api.Stmt) {
			was := *x
			*x = wrong[i%uint64(len(wrong))]
			if s, e := Print(l...); s != "" || e != api.ErrArg {
				t.Fatalf("%.400s: got %.99q, %d", sample.Shown(l), s, e)
			}
			*x = was
		})
		checkPrint(t, l)
	}
}

func TestManyStatements(t *testing.T) {
	for many, want := range map[int]api.Errno{maxStmts - 1: api.OK, maxStmts: api.OK, maxStmts + 1: api.ErrArg} {
		flat := slices.Repeat([]api.Stmt{a()}, many)
		for _, l := range [][]api.Stmt{flat, {b(flat[1:]...)}, append([]api.Stmt{b(flat[:1000]...)}, flat[1001:]...), {b(flat[:1500]...), b(flat[1502:]...)}} {
			if _, e := checkPrint(t, l); e != want {
				t.Errorf("%d: got %d", many, e)
			}
		}
	}
}

// A text has as many bytes as one may have, one less, and one more.
func TestLongTexts(t *testing.T) {
	for blocks := range maxDepth {
		for many, want := range map[int]api.Errno{maxText - 1: api.OK, maxText: api.OK, maxText + 1: api.ErrLong, maxText + 2: api.ErrLong, 2 * maxText: api.ErrLong} {
			l := longText(many, blocks)
			if got := len(textOf(sample.Tokens(l))); got != many {
				t.Fatalf("%d bytes in %d blocks: there are %d", many, blocks, got)
			}
			if _, e := checkPrint(t, l); e != want {
				t.Errorf("%d bytes in %d blocks: got %d", many, blocks, e)
			}
		}
	}
	// What may not be is that, too, however long.
	l := longText(2*maxText, 3)
	l[0].Body[0].Word = "B"
	if s, e := Print(l...); s != "" || e != api.ErrArg {
		t.Errorf("got %.99q, %d", s, e)
	}
}

// The longest text of all: the deepest statements, of the longest lines.
func TestTheLongestText(t *testing.T) {
	x := api.Stmt{Word: strings.Repeat("w", 16), Nums: slices.Repeat([]api.Num{{N: 1 - limit, Time: true}}, maxNums)}
	l := slices.Repeat([]api.Stmt{x}, maxStmts-maxDepth+1)
	for range maxDepth - 1 {
		l = []api.Stmt{b(l...)}
	}
	if s, e := Print(l...); s != "" || e != api.ErrLong {
		t.Errorf("got %d bytes, %d", len(s), e)
	}
	if s, e := Line(l[0]); s != "b {" || e != api.OK {
		t.Errorf("got %.99q, %d", s, e)
	}
}

// What is handed in stays as it was, and what is told is no part of it.
func TestNothingHandedInIsChanged(t *testing.T) {
	for i := range uint64(200) {
		// Behind what is handed in there is room, in which something else stands.
		l := sample.Stmts(2+int(i%30), 1+int(i%maxDepth), i)
		was := sample.Shown(l)
		part := l[:len(l)/2]
		s, _ := Print(part...)
		line, _ := Line(l[0])
		if sample.Shown(l) != was {
			t.Fatalf("%.400s became %.400s", was, sample.Shown(l))
		}
		if isPieceOf(line, l[0].Word) || isPieceOf(s, l[0].Word) {
			t.Fatalf("%.99q stands in what was handed in", line)
		}
		kept := strings.Clone(s)
		sample.Spoil(l)
		if s != kept {
			t.Fatalf("%.400q became %.400q", kept, s)
		}
	}
}
