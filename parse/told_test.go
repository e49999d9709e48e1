package parse

import (
	"regexp"
	"strconv"
	"strings"
	"unsafe"

	"pallet/api"
	"pallet/lex"
	"pallet/sample"
)

// What statements, and a text, are to be, by the chapter's own words: statements are gone through one by one, each with how deep it is, and tokens are asked what stands ahead of them.

// The document's numbers, written out: a limit that is mistaken elsewhere is noticed here.
const (
	maxDepth  = 6
	maxStmts  = 2000
	maxNums   = 8
	maxWord   = 16
	maxDigits = 18
	maxText   = 65536
	limit     = 1000000000000000000

	wordKind   = 1
	numberKind = 2
	signKind   = 3
)

var wordForm = regexp.MustCompile(`\A[a-z][a-z0-9]*\z`)

// sizeOf is how many statements there are, and how deep they are.
func sizeOf(l []api.Stmt) (many, deepest int) {
	sample.Visit(l, 1, func(x api.Stmt, deep int) {
		many++
		if x.Block {
			deep++
		}
		deepest = max(deepest, deep)
	})
	return many, deepest
}

// flatOf is all of them.
func flatOf(l []api.Stmt) []api.Stmt {
	var all []api.Stmt
	sample.Visit(l, 1, func(x api.Stmt, deep int) {
		x.Body = nil
		all = append(all, x)
	})
	return all
}

// mayBe tells whether statements may be.
func mayBe(l []api.Stmt) bool {
	many, deep := sizeOf(l)
	may := many <= maxStmts && deep <= maxDepth
	sample.Visit(l, 1, func(x api.Stmt, deep int) {
		may = may && wordForm.MatchString(x.Word) && len(x.Word) <= maxWord && len(x.Nums) <= maxNums
		may = may && (x.Block || len(x.Body) == 0)
		for _, n := range x.Nums {
			may = may && len(strings.TrimPrefix(strconv.FormatInt(n.N, 10), "-")) <= maxDigits
		}
	})
	return may
}

// told is what Parse is to answer: the tokens of its statements, or what is wrong, and where.
type told struct {
	tokens []api.Token
	at     api.Place
	e      api.Errno
}

// parseOf is what Parse is to answer.
func parseOf(s string) told {
	tokens, places, at, e := lex.Cut(s)
	if e != 0 {
		return told{at: at, e: e}
	}
	words, nums, blocks, begins := 0, 0, 0, true
	for i, x := range tokens {
		may, e := !begins, api.OK
		switch {
		case x.Kind == wordKind:
			may = begins
			words, nums, begins = words+1, 0, false
			if words > maxStmts {
				e = api.ErrFull
			}
		case x.Kind == numberKind:
			nums++
			if nums > maxNums {
				e = api.ErrFull
			}
		case x.S == ";":
			begins = true
		case x.S == "{":
			blocks++
			begins = true
			// Within so many blocks a statement is one deeper.
			if blocks+1 > maxDepth {
				e = api.ErrLong
			}
		default:
			may = begins && blocks > 0
			blocks--
		}
		if !may {
			return told{at: places[i], e: api.ErrForm}
		}
		if e != 0 {
			return told{at: places[i], e: e}
		}
		if x.Kind == numberKind {
			tokens[i].S = ""
		}
	}
	if !begins || blocks > 0 {
		behind, _ := lex.Where(s, len(s))
		return told{at: behind, e: api.ErrShort}
	}
	return told{tokens: tokens}
}

// isPieceOf tells whether a text stands within the memory of another one.
func isPieceOf(piece, of string) bool {
	at, from := uintptr(unsafe.Pointer(unsafe.StringData(piece))), uintptr(unsafe.Pointer(unsafe.StringData(of)))
	return from <= at && at < from+uintptr(len(of))
}
