package lex

import (
	"math"
	"slices"
	"strconv"
	"strings"
	"testing"

	"pallet/api"
	"pallet/drawn"
)

// P14.1: words.

func TestWordByHand(t *testing.T) {
	for _, s := range []string{"a", "z", "a0", "z9", "at", "aa", "repeat", "a1b2", "abcdefghijklmnop", "a012345678901234"} {
		if !Word(s) {
			t.Errorf("%q is none", s)
		}
	}
	for _, s := range []string{"", "0", "1a", "-", "-a", "A", "aA", "Aa", "a b", " a", "a ", "a\n", "a;", ";", "a-", "a_", "_a", "é", "aé", "a\xff", "\xff",
		"a\x00", "`", "{", "a`", "a{", "a/", "a:", "a٥", "abcdefghijklmnopq", "a0123456789012345"} {
		if Word(s) {
			t.Errorf("%q is one", s)
		}
	}
}

func TestWord(t *testing.T) {
	check := func(s string) {
		if is := len(s) <= maxWord && wordForm.MatchString(s); Word(s) != is {
			t.Fatalf("Word(%q): got %v", s, !is)
		}
	}
	eachText(3, check)
	for i := range 1 << 16 {
		check(string([]byte{byte(i >> 8), byte(i)}))
		check(string([]byte{'a', byte(i >> 8), byte(i), 'a'}))
	}
	for n := range 60 {
		for _, s := range []string{"a", "0", "é", "A"} {
			check(strings.Repeat("a", n) + s)
			check(s + strings.Repeat("a", n))
		}
	}
}

// P14.3

func TestTextByHand(t *testing.T) {
	for want, x := range map[string]api.Token{
		"at": {Kind: wordKind, S: "at"}, ";": {Kind: signKind, S: ";"}, "{": {Kind: signKind, S: "{"}, "}": {Kind: signKind, S: "}"},
		"0": {Kind: numberKind, S: "-0"}, "7": {Kind: numberKind, S: "007", N: 7}, "-5": {Kind: numberKind, N: -5},
		"0ps": {Kind: numberKind, S: "\xff", Time: true}, "5ns": {Kind: numberKind, S: "5000ps", N: 5000, Time: true}, "-3s": {Kind: numberKind, N: -3e12, Time: true},
		"999999999999999999": {Kind: numberKind, N: limit - 1}, "-999999999999999999ps": {Kind: numberKind, N: 1 - limit, Time: true},
		"999999s": {Kind: numberKind, N: 999999e12, Time: true},
	} {
		if s, e := Text(x); s != want || e != api.OK {
			t.Errorf("%v: got %q, %d, want %q", x, s, e, want)
		}
	}
}

// textOf is a token's text by the chapter's own words, and whether it has one.
func textOf(x api.Token) (string, bool) {
	if x.Kind != numberKind {
		is := x.Kind == wordKind && len(x.S) <= maxWord && wordForm.MatchString(x.S) || x.Kind == signKind && signForm.MatchString(x.S)
		return x.S, is && x.N == 0 && !x.Time
	}
	return textOfNumber(x), -limit < x.N && x.N < limit
}

// textOfNumber is a number's digits, of a time those ahead of a unit's noughts, of as many as there are.
func textOfNumber(x api.Token) string {
	s := strconv.FormatInt(x.N, 10)
	if !x.Time {
		return s
	}
	for _, unit := range []string{"s", "ms", "us", "ns"} {
		if whole, is := strings.CutSuffix(s, strings.Repeat("0", noughts[unit])); is && x.N != 0 {
			return whole + unit
		}
	}
	return s + "ps"
}

func TestText(t *testing.T) {
	numbers := []int64{0, 1, -1, 7, -7, 999, 1000, -1000, 1001, 10000, 1e6, 1e9, 1e12, -1e15, 123e12, limit - 1, 1 - limit, limit, -limit, limit + 1, -limit - 1,
		maxTime - 1, maxTime, maxTime + 1, -maxTime, -maxTime - 1, math.MaxInt64, math.MinInt64}
	texts := []string{"", "a", "a1", "1a", "5", "-5", "5ns", ";", "{", "}", ";;", "; ", ",", " ", "#", "\xff", "é", "{}", ";{}", "aB", "abcdefghijklmnop", "abcdefghijklmnopq"}
	for _, kind := range []int{-1, 0, 1, 2, 3, 4, 5, math.MaxInt, math.MinInt} {
		for _, n := range numbers {
			for _, s := range texts {
				for _, isTime := range []bool{false, true} {
					x := api.Token{Kind: kind, S: s, N: n, Time: isTime}
					want, wrong := "", api.ErrArg
					if s, is := textOf(x); is {
						want, wrong = s, api.OK
					}
					if got, e := Text(x); got != want || e != wrong {
						t.Fatalf("%v: got %q, %d, want %q, %d", x, got, e, want, wrong)
					}
				}
			}
		}
	}
}

func TestJoinByHand(t *testing.T) {
	for want, l := range map[string][]api.Token{
		"":          nil,
		"a":         {{Kind: wordKind, S: "a"}},
		"a -5 ;":    {{Kind: wordKind, S: "a"}, {Kind: numberKind, N: -5}, {Kind: signKind, S: ";"}},
		"{ { 5ns }": {{Kind: signKind, S: "{"}, {Kind: signKind, S: "{"}, {Kind: numberKind, S: "{", N: 5000, Time: true}, {Kind: signKind, S: "}"}},
	} {
		if s, e := Join(l...); s != want || e != api.OK {
			t.Errorf("%v: got %q, %d", l, s, e)
		}
	}
}

// drawnNumber is one that a number may have: of any size, or a small one with noughts behind.
func drawnNumber(n uint64) int64 {
	size := int64(n*1021%limit) >> (n >> 30 % 60)
	if n%3 == 0 {
		size = int64(n >> 8 % 1000)
		for range n >> 20 % 16 {
			size *= 10
		}
	}
	if n>>4%2 == 0 {
		return -size
	}
	return size
}

// drawnTokens are some that may be, or, of one in so many (0: of none), that may not.
func drawnTokens(many int, from, odd uint64) []api.Token {
	var l []api.Token
	for i, n := range drawn.Numbers(many, from) {
		x := api.Token{Kind: 1 + int(n%3)}
		switch {
		case odd > 0 && n>>30%odd == 0:
			x = api.Token{Kind: 1 + i%3, S: "A", N: limit + int64(i)}
		case x.Kind == wordKind:
			x.S = ("a" + strconv.FormatUint(n|1<<52, 36))[:1+n>>2%11]
		case x.Kind == signKind:
			x.S = ";{}"[n>>2%3:][:1]
		default:
			x.S, x.N, x.Time = []string{"", "5", "\xff"}[n>>4%3], drawnNumber(n>>2), n>>3%2 == 0
		}
		l = append(l, x)
	}
	return l
}

func TestJoin(t *testing.T) {
	wrong := 0
	for i := range uint64(2000) {
		l := drawnTokens(int(i%30), i, 40)
		was := slices.Clone(l)
		var texts []string
		all := true
		for _, x := range l {
			s, is := textOf(x)
			texts, all = append(texts, s), all && is
		}
		want, e := strings.Join(texts, " "), api.OK
		if !all {
			want, e = "", api.ErrArg
			wrong++
		}
		if s, got := Join(l...); s != want || got != e {
			t.Fatalf("%v: got %q, %d, want %q, %d", l, s, got, want, e)
		}
		if !slices.Equal(l, was) {
			t.Fatalf("%v became %v", was, l)
		}
	}
	if wrong < 200 || wrong > 1800 {
		t.Errorf("%d of 2000 are no tokens", wrong)
	}
}

// One that is no token spoils all, wherever it stands.
func TestJoinOfWhatIsNoToken(t *testing.T) {
	for n := 1; n < 10; n++ {
		for i := range n {
			l := drawnTokens(n, 7, 0)
			l[i] = api.Token{}
			if s, e := Join(l...); s != "" || e != api.ErrArg {
				t.Errorf("%d of %d: got %q, %d", i, n, s, e)
			}
		}
	}
}

// What is told is new.
func TestTextsAreNew(t *testing.T) {
	for _, x := range []api.Token{{Kind: wordKind, S: "at"}, {Kind: signKind, S: ";"}} {
		text, _ := Text(x)
		joined, _ := Join(x)
		if text != x.S || isPieceOf(text, x.S) || joined != x.S || isPieceOf(joined, x.S) {
			t.Errorf("%v: %q and %q stand in the token that was handed in", x, text, joined)
		}
	}
}

// A joined text may have more bytes than one that is cut.
func TestJoinMany(t *testing.T) {
	l := make([]api.Token, 2*maxText)
	for i := range l {
		l[i] = api.Token{Kind: signKind, S: ";"}
	}
	if s, e := Join(l...); s != strings.Repeat("; ", 2*maxText-1)+";" || e != api.OK {
		t.Errorf("got %d bytes, %d", len(s), e)
	}
}
