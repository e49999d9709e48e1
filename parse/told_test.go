package parse

import (
	"regexp"
	"slices"
	"strconv"
	"strings"
	"unsafe"

	"pallet/api"
	"pallet/drawn"
	"pallet/lex"
)

// What statements, and a text, are to be, by the chapter's own words: statements are gone through one by one, each with how deep it is, and tokens are asked what stands ahead of them.

// The document's numbers, written out: a limit that is mistaken elsewhere is noticed here.
const (
	maxDepth  = 6
	maxStmts  = 2000
	maxNums   = 8
	maxWord   = 16
	maxDigits = 18
	maxText   = 65536
	limit     = 1000000000000000000

	wordKind   = 1
	numberKind = 2
	signKind   = 3
)

var wordForm = regexp.MustCompile(`\A[a-z][a-z0-9]*\z`)

// visit hands on each statement, ahead of those in its block, and how deep it is.
func visit(l []api.Stmt, deep int, hand func(x api.Stmt, deep int)) {
	for _, x := range l {
		hand(x, deep)
		visit(x.Body, deep+1, hand)
	}
}

// sizeOf is how many statements there are, and how deep they are.
func sizeOf(l []api.Stmt) (many, deepest int) {
	visit(l, 1, func(x api.Stmt, deep int) {
		many++
		if x.Block {
			deep++
		}
		deepest = max(deepest, deep)
	})
	return many, deepest
}

// flatOf is all of them.
func flatOf(l []api.Stmt) []api.Stmt {
	var all []api.Stmt
	visit(l, 1, func(x api.Stmt, deep int) {
		x.Body = nil
		all = append(all, x)
	})
	return all
}

// mayBe tells whether statements may be.
func mayBe(l []api.Stmt) bool {
	many, deep := sizeOf(l)
	may := many <= maxStmts && deep <= maxDepth
	visit(l, 1, func(x api.Stmt, deep int) {
		may = may && wordForm.MatchString(x.Word) && len(x.Word) <= maxWord && len(x.Nums) <= maxNums
		may = may && (x.Block || len(x.Body) == 0)
		for _, n := range x.Nums {
			may = may && len(strings.TrimPrefix(strconv.FormatInt(n.N, 10), "-")) <= maxDigits
		}
	})
	return may
}

// shown is all parts of statements, as a text: another one of other statements.
func shown(l []api.Stmt) string {
	var b strings.Builder
	show(&b, l)
	return b.String()
}

func show(b *strings.Builder, l []api.Stmt) {
	for _, x := range l {
		b.WriteString(strconv.Quote(x.Word))
		for _, n := range x.Nums {
			b.WriteString(" " + strconv.FormatInt(n.N, 10) + strconv.FormatBool(n.Time))
		}
		b.WriteString(strconv.FormatBool(x.Block) + "(")
		show(b, x.Body)
		b.WriteString(")")
	}
}

// tokensOf are the tokens of statements as they stand in a text; S of a number is left out, as it may be written in several ways.
func tokensOf(l []api.Stmt) []api.Token {
	var tokens []api.Token
	for _, x := range l {
		tokens = append(tokens, api.Token{Kind: wordKind, S: x.Word})
		for _, n := range x.Nums {
			tokens = append(tokens, api.Token{Kind: numberKind, N: n.N, Time: n.Time})
		}
		if !x.Block {
			tokens = append(tokens, api.Token{Kind: signKind, S: ";"})
			continue
		}
		tokens = append(tokens, api.Token{Kind: signKind, S: "{"})
		tokens = append(tokens, tokensOf(x.Body)...)
		tokens = append(tokens, api.Token{Kind: signKind, S: "}"})
	}
	return tokens
}

// told is what Parse is to answer: the tokens of its statements, or what is wrong, and where.
type told struct {
	tokens []api.Token
	at     api.Place
	e      api.Errno
}

// parseOf is what Parse is to answer.
func parseOf(s string) told {
	tokens, places, at, e := lex.Cut(s)
	if e != 0 {
		return told{at: at, e: e}
	}
	words, nums, blocks, begins := 0, 0, 0, true
	for i, x := range tokens {
		may, e := !begins, api.OK
		switch {
		case x.Kind == wordKind:
			may = begins
			words, nums, begins = words+1, 0, false
			if words > maxStmts {
				e = api.ErrFull
			}
		case x.Kind == numberKind:
			nums++
			if nums > maxNums {
				e = api.ErrFull
			}
		case x.S == ";":
			begins = true
		case x.S == "{":
			blocks++
			begins = true
			// Within so many blocks a statement is one deeper.
			if blocks+1 > maxDepth {
				e = api.ErrLong
			}
		default:
			may = begins && blocks > 0
			blocks--
		}
		if !may {
			return told{at: places[i], e: api.ErrForm}
		}
		if e != 0 {
			return told{at: places[i], e: e}
		}
		if x.Kind == numberKind {
			tokens[i].S = ""
		}
	}
	if !begins || blocks > 0 {
		behind, _ := lex.Where(s, len(s))
		return told{at: behind, e: api.ErrShort}
	}
	return told{tokens: tokens}
}

// eachText hands on all texts of up to so many tokens.
func eachText(most int, hand func(s string)) {
	hand("")
	if most == 0 {
		return
	}
	for _, x := range []string{"a ", "5 ", ";", "{", "}"} {
		eachText(most-1, func(s string) { hand(x + s) })
	}
}

// eachList hands on all lists of so many statements, with a block or without, and with others in a block or without one.
func eachList(many int, hand func(l []api.Stmt)) {
	if many == 0 {
		hand(nil)
		return
	}
	for within := range many {
		eachList(within, func(body []api.Stmt) {
			eachList(many-1-within, func(others []api.Stmt) {
				for _, block := range []bool{false, true} {
					hand(append([]api.Stmt{{Word: "a", Block: block, Body: body}}, others...))
				}
			})
		})
	}
}

// drawnNumber is one that a number may have, of any size.
func drawnNumber(n uint64) int64 {
	size := int64(n*1021%limit) >> (n >> 30 % 60)
	if n>>4%2 == 0 {
		return -size
	}
	return size
}

// drawnStmts are statements so many beside one another, and no deeper than so deep.
func drawnStmts(many, deep int, from uint64) []api.Stmt {
	var l []api.Stmt
	for i, n := range drawn.Numbers(many, from) {
		x := api.Stmt{Word: ("z" + strconv.FormatUint(n|1<<52, 36))[:1+n>>2%11]}
		for j, m := range drawn.Numbers(int(n>>10%(maxNums+1)), n) {
			x.Nums = append(x.Nums, api.Num{N: drawnNumber(m), Time: (j+int(m>>5))%2 == 0})
		}
		if x.Block = deep > 1 && n>>20%2 == 0; x.Block {
			x.Body = drawnStmts(min(int(n>>24%6), many-i-1), deep-1, n)
		}
		l = append(l, x)
	}
	return l
}

// pieces are of what campaigns are made; few of them end what is begun wrongly.
var pieces = []string{"a;", "at 5ns {", "run9 1 2 3 ;", "}", "b{", "x -3us 007 5000ps;", "empty {}", "z 1 2 3 4 5 6 7 8;", "\n", "# é; {5}\n", "}", "}", " ", "\t"}

// odd are pieces by which a text is no campaign's.
var odd = []string{"5", ";", "}", "a", "{", "a b;", "A", "\xff", "5x", "1000000s;", "abcdefghijklmnopq;", "z 1 2 3 4 5 6 7 8 9;", "a{a{a{a{a{a{", "#"}

// drawnText is a text of some pieces, mostly with as many } as blocks, and perhaps an odd piece.
func drawnText(from uint64) string {
	l := drawn.Numbers(32, from)
	s, open := "", 0
	for _, n := range l[2 : 2+l[0]%30] {
		x := pieces[n%uint64(len(pieces))]
		switch {
		case n>>20%128 == 0:
			x = odd[n%uint64(len(odd))]
		case x == "}" && open == 0, strings.HasSuffix(x, "{") && open == maxDepth-1:
			x = " "
		}
		open += strings.Count(x, "{") - strings.Count(x, "}")
		if strings.HasPrefix(x, "#") {
			open = strings.Count(s, "{") - strings.Count(s, "}")
		}
		s += x
	}
	if l[1]%16 > 0 {
		s += strings.Repeat("}", max(open, 0))
	}
	return s
}

// own are statements as they are, in new memory.
func own(l []api.Stmt) []api.Stmt {
	l = slices.Clone(l)
	for i := range l {
		l[i].Nums, l[i].Body = slices.Clone(l[i].Nums), own(l[i].Body)
	}
	return l
}

// spoil writes into all that statements have.
func spoil(l []api.Stmt) {
	for i := range l {
		spoil(l[i].Body)
		for j := range l[i].Nums {
			l[i].Nums[j] = api.Num{N: 99}
		}
		_ = append(l[i].Nums, api.Num{N: 98})
		l[i] = api.Stmt{Word: "spoilt"}
	}
	_ = append(l, api.Stmt{Word: "more"})
}

// isPieceOf tells whether a text stands within the memory of another one.
func isPieceOf(piece, of string) bool {
	at, from := uintptr(unsafe.Pointer(unsafe.StringData(piece))), uintptr(unsafe.Pointer(unsafe.StringData(of)))
	return from <= at && at < from+uintptr(len(of))
}
