package lex

import (
	"math/big"
	"regexp"
	"strings"
	"unsafe"

	"pallet/api"
	"pallet/drawn"
)

// What a text is to be cut into, by the chapter's own words: no layer is asked, runes are taken from bytes by hand, and numbers are without end.

// The document's numbers, written out: a limit that is mistaken elsewhere is noticed here.
const (
	maxText   = 65536
	maxWord   = 16
	maxDigits = 18
	maxTime   = 1152921504606846976
	limit     = 1000000000000000000

	wordKind   = 1
	numberKind = 2
	signKind   = 3
)

// What a piece of a text may be.
var (
	tokenForm  = regexp.MustCompile(`\A(?:[a-z][a-z0-9]*|[0-9-][a-z0-9]*|[;{}])`)
	wordForm   = regexp.MustCompile(`\A[a-z][a-z0-9]*\z`)
	numberForm = regexp.MustCompile(`\A(-?)([0-9]+)(ps|ns|us|ms|s|)\z`)
	signForm   = regexp.MustCompile(`\A[;{}]\z`)
)

// noughts are how many a unit stands for.
var noughts = map[string]int{"ps": 0, "ns": 3, "us": 6, "ms": 9, "s": 12}

// told is what Cut answers.
type told struct {
	tokens []api.Token
	places []api.Place
	at     api.Place
	e      api.Errno
}

// width is how many bytes the rune has with which a text begins, as UTF-8 has it; 0, if it begins with none.
func width(s string) int {
	for n, x := range [4]struct {
		mask, lead  byte
		least, most int
	}{{0x80, 0, 0, 0x7f}, {0xe0, 0xc0, 0x80, 0x7ff}, {0xf0, 0xe0, 0x800, 0xffff}, {0xf8, 0xf0, 0x10000, 0x10ffff}} {
		if len(s) <= n || s[0]&x.mask != x.lead {
			continue
		}
		r := int(s[0] &^ x.mask)
		for i := 1; i <= n; i++ {
			if s[i]&0xc0 != 0x80 {
				return 0
			}
			r = r<<6 | int(s[i]&0x3f)
		}
		if r < x.least || r > x.most || r>>11 == 0xd800>>11 {
			return 0
		}
		return n + 1
	}
	return 0
}

// begins are the bytes at which a text's runes begin; a byte that is no rune's counts as one.
func begins(s string) []int {
	var l []int
	for i := 0; i < len(s); i += max(width(s[i:]), 1) {
		l = append(l, i)
	}
	return l
}

// placeOf is the place of the rune at a byte, or around it.
func placeOf(s string, at int) api.Place {
	ahead := s
	for _, i := range begins(s) {
		if i <= at && at < i+max(width(s[i:]), 1) {
			ahead = s[:i]
		}
	}
	line := ahead[strings.LastIndex(ahead, "\n")+1:]
	return api.Place{Line: 1 + strings.Count(ahead, "\n"), Col: 1 + len(begins(line))}
}

// tokenOf is the token that a piece of a text is.
func tokenOf(s string) (api.Token, api.Errno) {
	if signForm.MatchString(s) {
		return api.Token{Kind: signKind, S: s}, 0
	}
	if wordForm.MatchString(s) {
		if len(s) > maxWord {
			return api.Token{}, api.ErrLong
		}
		return api.Token{Kind: wordKind, S: s}, 0
	}
	parts := numberForm.FindStringSubmatch(s)
	if parts == nil {
		return api.Token{}, api.ErrForm
	}
	if len(parts[2]) > maxDigits {
		return api.Token{}, api.ErrLong
	}
	n, _ := new(big.Int).SetString(parts[1]+parts[2]+strings.Repeat("0", noughts[parts[3]]), 10)
	if n.CmpAbs(big.NewInt(limit)) >= 0 {
		return api.Token{}, api.ErrOver
	}
	return api.Token{Kind: numberKind, S: s, N: n.Int64(), Time: parts[3] != ""}, 0
}

// cutOf is what Cut is to answer.
func cutOf(s string) told {
	if len(s) > maxText {
		return told{at: api.Place{Line: 1, Col: 1}, e: api.ErrLong}
	}
	var x told
	remark := false
	for i := 0; i < len(s); {
		n := width(s[i:])
		if n == 0 {
			return told{at: placeOf(s, i), e: api.ErrForm}
		}
		if s[i] == '\n' || !remark && s[i] == '#' {
			remark = s[i] == '#'
			i++
			continue
		}
		if remark || s[i] == ' ' || s[i] == '\t' {
			i += n
			continue
		}
		t, e := tokenOf(tokenForm.FindString(s[i:]))
		if e != 0 {
			return told{at: placeOf(s, i), e: e}
		}
		x.tokens, x.places = append(x.tokens, t), append(x.places, placeOf(s, i))
		i += len(t.S)
	}
	return x
}

// isPieceOf tells whether a text stands within the memory of another one.
func isPieceOf(piece, of string) bool {
	at, from := uintptr(unsafe.Pointer(unsafe.StringData(piece))), uintptr(unsafe.Pointer(unsafe.StringData(of)))
	return from <= at && at < from+uintptr(len(of))
}

// scraps are what texts are made of here: what tokens and units are made of, what stands between them, and what may not.
var scraps = []string{"a", "s", "n", "p", "z", "0", "9", "-", ";", "{", "}", " ", "\t", "\n", "#", "\xff", "é", "\uFFFD", "A"}

// eachText hands on all texts of up to so many scraps.
func eachText(most int, hand func(s string)) {
	hand("")
	for _, x := range scraps {
		if most > 0 {
			eachText(most-1, func(s string) { hand(x + s) })
		}
	}
}

// pieces are of what campaigns are made, and some of it is wrong, seldom.
var pieces = []string{"a", "at", "run9", "abcdefghijklmnop", "5", "-5", "007", "-0", "123456789012345678", "5ns", "-3us",
	"0ps", "12ms", "999999s", "-999999999999999999ps", "1000ps", ";", "{", "}", "{", "}", ";", " ", "\t", "\n", "  ", "\n\n", " ", "\n",
	"# é so\n", "#\n", "# a; {5ns}\n"}

// wrong are pieces that may not stand in a text.
var wrong = []string{"A", "\xff", "\xe2\x82", "é", "\r", "-", "5x", "abcdefghijklmnopq", "1000000s", "1234567890123456789", "# \xff\n", "#"}

// drawnText is a text of some pieces, and perhaps a wrong one.
func drawnText(from uint64) string {
	l := drawn.Numbers(42, from)
	s := ""
	for _, n := range l[2 : 2+l[0]%40] {
		if n>>20%64 == 0 {
			s += wrong[n%uint64(len(wrong))]
		}
		s += pieces[n%uint64(len(pieces))]
	}
	return s
}
