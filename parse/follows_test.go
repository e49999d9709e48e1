package parse

import (
	"strconv"
	"strings"
	"testing"

	"pallet/api"
	"pallet/lex"
	"pallet/sample"
)

// P15.3

// What is told may be.
func TestWhatIsParsedMayBe(t *testing.T) {
	check := func(s string) {
		l, _, e := Parse(s)
		if !mayBe(l) || Check(l...) != api.OK || e != api.OK && len(l) != 0 {
			t.Fatalf("%.99q is parsed as %.400s, %d", s, sample.Shown(l), e)
		}
		if flat := Flat(l...); Check(flat...) != api.OK || Count(flat...) != Count(l...) {
			t.Fatalf("%.99q: flat: %.400s", s, sample.Shown(flat))
		}
	}
	sample.EachText(7, check)
	for i := range uint64(3000) {
		check(sample.Text(i))
	}
	for deep := range maxDepth + 3 {
		check(strings.Repeat("a{", deep) + strings.Repeat("}", deep))
		check(strings.Repeat("a{", deep) + "a;" + strings.Repeat("}", deep))
	}
	for many := maxStmts - 2; many < maxStmts+3; many++ {
		check(strings.Repeat("a;", many))
		check("a{" + strings.Repeat("a;", many-1) + "}")
	}
	for many := range maxNums + 3 {
		check("a" + strings.Repeat(" -999999s", many) + ";")
	}
}

// written is a text of statements that may be.
func written(l []api.Stmt) string {
	tokens := sample.Tokens(l)
	s, _ := lex.Join(tokens...)
	return s
}

// Whatever may be is told of a text, as far as it is short enough.
func TestWhatMayBeIsParsed(t *testing.T) {
	check := func(l []api.Stmt) {
		if !mayBe(l) {
			return
		}
		s := written(l)
		got, at, e := Parse(s)
		if !Same(got, l) || sample.Shown(got) != sample.Shown(l) || at != (api.Place{}) || e != api.OK {
			t.Fatalf("%.99q: got %.400s, %v, %d", s, sample.Shown(got), at, e)
		}
	}
	for many := range 7 {
		sample.EachList(many, check)
	}
	for i := range uint64(1000) {
		check(sample.Stmts(int(i%60), 1+int(i%maxDepth), i))
	}
}

// joined holds one text behind another one against each of them alone.
func joined(t *testing.T, a, b string) {
	t.Helper()
	first, _, e := Parse(a)
	if e != api.OK {
		return
	}
	second, at, e := Parse(b)
	l, place, got := Parse(a + b)
	behind, _ := lex.Where(a, len(a))
	if e != api.OK {
		at = further(behind, at)
	}
	if got != e || place != at {
		t.Fatalf("%.99q and %.99q: got %v, %d, want %v, %d", a, b, place, got, at, e)
	}
	if e == api.OK && !Same(l, append(first, second...)) {
		t.Fatalf("%.99q and %.99q: got %.400s, want %.400s and %.400s", a, b, sample.Shown(l), sample.Shown(first), sample.Shown(second))
	}
}

// further is a place in a text, of which there are some lines and columns ahead.
func further(behind, at api.Place) api.Place {
	if at.Line > 1 {
		return api.Place{Line: behind.Line + at.Line - 1, Col: at.Col}
	}
	return api.Place{Line: behind.Line, Col: behind.Col + at.Col - 1}
}

// Text by text statements are put one behind the other.
func TestOneTextBehindAnother(t *testing.T) {
	sample.EachText(4, func(a string) {
		if _, _, e := Parse(a); e == api.OK {
			sample.EachText(5, func(b string) { joined(t, a, b) })
		}
	})
	for i := range uint64(3000) {
		// A remark at the first one's end would take in the second one.
		joined(t, sample.Text(i)+"\n", sample.Text(i+7777))
	}
}

// All texts together have no more statements than one may have.
func TestManyTextsBehindOneAnother(t *testing.T) {
	s := ""
	for i := range maxStmts / 4 {
		s += "a" + strconv.Itoa(i) + "{b; c 5ns{}} d;\n"
		l, _, e := Parse(s)
		if e != api.OK || len(l) != 2*i+2 || Count(l...) != 4*i+4 {
			t.Fatalf("%d texts: got %d, %d", i+1, len(l), e)
		}
	}
	if l, at, e := Parse(s + "\ne;"); len(l) != 0 || at != (api.Place{Line: maxStmts/4 + 2, Col: 1}) || e != api.ErrFull {
		t.Errorf("got %v, %d", at, e)
	}
}
