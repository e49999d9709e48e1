package print

import (
	"slices"
	"strings"
	"testing"
	"unsafe"

	"pallet/api"
	"pallet/lex"
	"pallet/parse"
	"pallet/sample"
)

// What a text of statements is to be, by the chapter's own words, token by token: each one is asked what stands ahead of it.

// The document's numbers, written out: a limit that is mistaken elsewhere is noticed here.
const (
	maxText  = 65536
	maxStmts = 2000
	maxDepth = 6
	maxNums  = 8
	limit    = 1000000000000000000

	okE   = 0
	argE  = 1
	longE = 6
)

// textOf is the text of tokens of statements.
func textOf(tokens []api.Token) string {
	var b strings.Builder
	blocks, begins := 0, true
	for _, x := range tokens {
		s, _ := lex.Text(x)
		if s == "}" {
			blocks--
		}
		switch {
		case begins:
			b.WriteString(strings.Repeat("  ", blocks))
		case s != ";":
			b.WriteString(" ")
		}
		b.WriteString(s)
		if begins = x.Kind == api.SignK; begins {
			b.WriteString("\n")
		}
		if s == "{" {
			blocks++
		}
	}
	return b.String()
}

// closeText is a text of statements without a space or a line end that is not needed.
func closeText(l []api.Stmt) string {
	return strings.NewReplacer("\n", "", "  ", "", " {", "{").Replace(textOf(sample.Tokens(l)))
}

// printOf is what Print is to answer.
func printOf(l []api.Stmt) (string, api.Errno) {
	if parse.Check(l...) != okE {
		return "", argE
	}
	s := textOf(sample.Tokens(l))
	if len(s) > maxText {
		return "", longE
	}
	return s, okE
}

// lineOf is what Line is to answer: of a block what it is printed as without statements, up to the {.
func lineOf(x api.Stmt) (string, api.Errno) {
	if parse.Check(x) != okE {
		return "", argE
	}
	x.Body = nil
	s := textOf(sample.Tokens([]api.Stmt{x}))
	return s[:strings.Index(s, "\n")], okE
}

// tidyOf is what Tidy is to answer.
func tidyOf(s string) (string, api.Place, api.Errno) {
	l, at, e := parse.Parse(s)
	if e != okE {
		return "", at, e
	}
	tidy, e := printOf(l)
	if e != okE {
		return "", api.Place{Line: 1, Col: 1}, e
	}
	return tidy, api.Place{}, okE
}

// checkPrint holds what is told of statements, all of them and each alone, against what is to be told.
func checkPrint(t *testing.T, l []api.Stmt) (string, api.Errno) {
	t.Helper()
	want, e := printOf(l)
	if s, got := Print(l...); s != want || got != e {
		t.Fatalf("Print(%.400s): got %.400q, %d, want %.400q, %d", sample.Shown(l), s, got, want, e)
	}
	for _, x := range l {
		line, e := lineOf(x)
		if s, got := Line(x); s != line || got != e {
			t.Fatalf("Line(%.400s): got %.400q, %d, want %.400q, %d", sample.Shown([]api.Stmt{x}), s, got, line, e)
		}
	}
	return want, e
}

// checkTidy holds what is told of a text against what is to be told, and tells the error.
func checkTidy(t *testing.T, s string) api.Errno {
	t.Helper()
	want, at, e := tidyOf(s)
	tidy, place, got := Tidy(s)
	if tidy != want || place != at || got != e {
		t.Fatalf("Tidy(%.400q): got %.400q, %v, %d, want %.400q, %v, %d", s, tidy, place, got, want, at, e)
	}
	if is := Is(s); is != (e == okE && s == want) {
		t.Fatalf("Is(%.400q): got %v", s, is)
	}
	return e
}

// a is a statement of that word, b one with a block.
func a() api.Stmt { return api.Stmt{Word: "a"} }

func b(l ...api.Stmt) api.Stmt { return api.Stmt{Word: "b", Block: true, Body: l} }

// longLine is a statement whose line is of so many bytes, from 20 to 169; its numbers are of nines.
func longLine(many int) api.Stmt {
	x, rest := api.Stmt{Word: strings.Repeat("w", 16)}, many-17
	for rest > 0 {
		// A number is at least of one digit, behind a space.
		width := min(rest, 19)
		if rest == 20 {
			width = 18
		}
		n := int64(0)
		for range width - 1 {
			n = n*10 + 9
		}
		x.Nums, rest = append(x.Nums, api.Num{N: n}), rest-width
	}
	return x
}

// longText are statements that are printed as so many bytes, 1000 and more, within so many blocks.
func longText(many, blocks int) []api.Stmt {
	// The lines of the blocks themselves, and the spaces ahead of all lines, take some.
	for i := range blocks {
		many -= 2*len(strings.Repeat("  ", i)) + len("b {\n}\n")
	}
	ahead := 2 * blocks
	var l []api.Stmt
	for many > 200 {
		l, many = append(l, longLine(99-ahead)), many-100
	}
	l = append(l, longLine(many/2-1-ahead), longLine(many-many/2-1-ahead))
	for range blocks {
		l = []api.Stmt{b(l...)}
	}
	return l
}

// isPieceOf tells whether a text stands within the memory of another one.
func isPieceOf(piece, of string) bool {
	at, from := uintptr(unsafe.Pointer(unsafe.StringData(piece))), uintptr(unsafe.Pointer(unsafe.StringData(of)))
	return from <= at && at < from+uintptr(len(of))
}

// wrongs are statements that may not be, however they stand, and ones that just may.
func wrongs() (wrong, right []api.Stmt) {
	nums := func(many int, n int64) []api.Num {
		return slices.Repeat([]api.Num{{N: n}, {N: n, Time: true}}, many)[:many]
	}
	wrong = []api.Stmt{
		{}, {Word: "A"}, {Word: "9"}, {Word: "a b"}, {Word: "a;"}, {Word: "é"}, {Word: strings.Repeat("w", 17)}, {Block: true},
		{Word: "a", Nums: nums(maxNums+1, 5)}, {Word: "a", Nums: nums(1, limit)}, {Word: "a", Nums: nums(2, -limit)}, {Word: "a", Nums: nums(3, 1<<62), Block: true},
		{Word: "a", Body: []api.Stmt{a()}}, {Word: "a", Body: []api.Stmt{{}}}, b(api.Stmt{}), b(a(), b(a(), b(api.Stmt{Word: "a", Body: []api.Stmt{a()}}))),
		sample.Nested(maxDepth+1, false)[0], sample.Nested(maxDepth, true)[0], b(slices.Repeat([]api.Stmt{a()}, maxStmts)...),
	}
	right = []api.Stmt{
		a(), b(), {Word: strings.Repeat("w", 16)}, {Word: "a9"}, {Word: "a", Nums: []api.Num{}, Body: []api.Stmt{}},
		{Word: "a", Nums: nums(maxNums, 5)}, {Word: "a", Nums: nums(maxNums, limit-1), Block: true}, {Word: "a", Nums: nums(2, 1-limit)},
		sample.Nested(maxDepth, false)[0], sample.Nested(maxDepth-1, true)[0], b(slices.Repeat([]api.Stmt{a()}, maxStmts-1)...),
	}
	return wrong, right
}
