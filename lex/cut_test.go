package lex

import (
	"slices"
	"strings"
	"testing"
	"unicode/utf8"

	"pallet/api"
)

// P14.2

// checkCut holds what Cut answers of a text against what it is to answer.
func checkCut(t *testing.T, s string, want told) {
	t.Helper()
	tokens, places, at, e := Cut(s)
	if !slices.Equal(tokens, want.tokens) || !slices.Equal(places, want.places) || at != want.at || e != want.e {
		t.Fatalf("Cut(%q): got %v, %v, %v, %d, want %v", s, tokens, places, at, e, want)
	}
}

func TestCutByHand(t *testing.T) {
	semi, open, end := api.Token{Kind: signKind, S: ";"}, api.Token{Kind: signKind, S: "{"}, api.Token{Kind: signKind, S: "}"}
	for s, want := range map[string]told{
		"":            {},
		" \t\n \n":    {},
		"#":           {},
		"# é; {5\x00": {},
		"at 5ns; # so": {tokens: []api.Token{{Kind: wordKind, S: "at"}, {Kind: numberKind, S: "5ns", N: 5000, Time: true}, semi},
			places: []api.Place{{Line: 1, Col: 1}, {Line: 1, Col: 4}, {Line: 1, Col: 7}}},
		"a1{-7;}\n\t;b": {tokens: []api.Token{{Kind: wordKind, S: "a1"}, open, {Kind: numberKind, S: "-7", N: -7}, semi, end, semi, {Kind: wordKind, S: "b"}},
			places: []api.Place{{Line: 1, Col: 1}, {Line: 1, Col: 3}, {Line: 1, Col: 4}, {Line: 1, Col: 6}, {Line: 1, Col: 7}, {Line: 2, Col: 2}, {Line: 2, Col: 3}}},
		"a#b\n007#": {tokens: []api.Token{{Kind: wordKind, S: "a"}, {Kind: numberKind, S: "007", N: 7}},
			places: []api.Place{{Line: 1, Col: 1}, {Line: 2, Col: 1}}},
		"#é\uFFFD\n-0s": {tokens: []api.Token{{Kind: numberKind, S: "-0s", Time: true}}, places: []api.Place{{Line: 2, Col: 1}}},
		"1s-1s": {tokens: []api.Token{{Kind: numberKind, S: "1s", N: 1e12, Time: true}, {Kind: numberKind, S: "-1s", N: -1e12, Time: true}},
			places: []api.Place{{Line: 1, Col: 1}, {Line: 1, Col: 3}}},
	} {
		checkCut(t, s, want)
	}
}

func TestCutFaultsByHand(t *testing.T) {
	for s, want := range map[string]told{
		"A":                  {at: api.Place{Line: 1, Col: 1}, e: api.ErrForm},
		"a é":                {at: api.Place{Line: 1, Col: 3}, e: api.ErrForm},
		"a\r\n":              {at: api.Place{Line: 1, Col: 2}, e: api.ErrForm},
		"a,":                 {at: api.Place{Line: 1, Col: 2}, e: api.ErrForm},
		"aB":                 {at: api.Place{Line: 1, Col: 2}, e: api.ErrForm},
		"5B":                 {at: api.Place{Line: 1, Col: 2}, e: api.ErrForm},
		"a_b":                {at: api.Place{Line: 1, Col: 2}, e: api.ErrForm},
		"\u00a0":             {at: api.Place{Line: 1, Col: 1}, e: api.ErrForm},
		"\ufeffa":            {at: api.Place{Line: 1, Col: 1}, e: api.ErrForm},
		"# é é \xff":         {at: api.Place{Line: 1, Col: 7}, e: api.ErrForm},
		"# \n# \xc3":         {at: api.Place{Line: 2, Col: 3}, e: api.ErrForm},
		"# \xed\xa0\x80":     {at: api.Place{Line: 1, Col: 3}, e: api.ErrForm},
		"a\n\n 5x":           {at: api.Place{Line: 3, Col: 2}, e: api.ErrForm},
		"5ns5":               {at: api.Place{Line: 1, Col: 1}, e: api.ErrForm},
		"5a":                 {at: api.Place{Line: 1, Col: 1}, e: api.ErrForm},
		"-":                  {at: api.Place{Line: 1, Col: 1}, e: api.ErrForm},
		"-ns":                {at: api.Place{Line: 1, Col: 1}, e: api.ErrForm},
		"- 5":                {at: api.Place{Line: 1, Col: 1}, e: api.ErrForm},
		"--5":                {at: api.Place{Line: 1, Col: 1}, e: api.ErrForm},
		"a-5-":               {at: api.Place{Line: 1, Col: 4}, e: api.ErrForm},
		"+5":                 {at: api.Place{Line: 1, Col: 1}, e: api.ErrForm},
		"1.5":                {at: api.Place{Line: 1, Col: 2}, e: api.ErrForm},
		"٥":                  {at: api.Place{Line: 1, Col: 1}, e: api.ErrForm},
		"{abcdefghijklmnopq": {at: api.Place{Line: 1, Col: 2}, e: api.ErrLong},
		"a0123456789012345":  {at: api.Place{Line: 1, Col: 1}, e: api.ErrLong},
		// Noughts ahead are digits, too; a number's - is none.
		"0000000000000000000":     {at: api.Place{Line: 1, Col: 1}, e: api.ErrLong},
		"-0000000000000000001ns":  {at: api.Place{Line: 1, Col: 1}, e: api.ErrLong},
		"1234567890123456789x":    {at: api.Place{Line: 1, Col: 1}, e: api.ErrForm},
		"1000000000000000000ps":   {at: api.Place{Line: 1, Col: 1}, e: api.ErrLong},
		"; 1000000s":              {at: api.Place{Line: 1, Col: 3}, e: api.ErrOver},
		"; -1000000000000ms":      {at: api.Place{Line: 1, Col: 3}, e: api.ErrOver},
		"; 1152921504606846976ps": {at: api.Place{Line: 1, Col: 3}, e: api.ErrLong},
		"; 999999999999999999s":   {at: api.Place{Line: 1, Col: 3}, e: api.ErrOver},
	} {
		checkCut(t, s, want)
	}
}

// Of several faults the first one is told, whichever they are.
func TestCutTellsTheFirstFault(t *testing.T) {
	faults := map[string]api.Errno{"A": api.ErrForm, "\xff": api.ErrForm, "5x": api.ErrForm, "#\xff": api.ErrForm,
		"abcdefghijklmnopq": api.ErrLong, "1234567890123456789": api.ErrLong, "1000000s": api.ErrOver}
	for a, e := range faults {
		at := api.Place{Line: 1, Col: 3}
		if a[0] == '#' {
			at.Col++
		}
		for b := range faults {
			checkCut(t, "; "+a+"\n"+b, told{at: at, e: e})
			checkCut(t, "; "+a+" "+b, told{at: at, e: e})
		}
	}
	// A token is wrong where it begins, a byte that is no rune's where it stands.
	checkCut(t, "5x\xff", told{at: api.Place{Line: 1, Col: 1}, e: api.ErrForm})
	checkCut(t, "abcdefghijklmnopq\xff", told{at: api.Place{Line: 1, Col: 1}, e: api.ErrLong})
	checkCut(t, "5s\xff", told{at: api.Place{Line: 1, Col: 3}, e: api.ErrForm})
}

func TestCutShortTexts(t *testing.T) {
	eachText(4, func(s string) { checkCut(t, s, cutOf(s)) })
}

func TestCutDrawnTexts(t *testing.T) {
	fine := 0
	for i := range uint64(5000) {
		s := drawnText(i)
		want := cutOf(s)
		if want.e == 0 {
			fine++
		}
		checkCut(t, s, want)
	}
	if fine < 1000 || fine > 4000 {
		t.Errorf("%d of 5000 texts may be cut", fine)
	}
}

func TestCutEachRune(t *testing.T) {
	for r := range rune(utf8.MaxRune + 1) {
		if !utf8.ValidRune(r) {
			continue
		}
		s := string(r)
		checkCut(t, s, cutOf(s))
		if r > utf8.RuneSelf {
			checkCut(t, "a"+s, told{at: api.Place{Line: 1, Col: 2}, e: api.ErrForm})
		}
		if r != '\n' {
			checkCut(t, "#"+s+";\n", told{})
		}
	}
}

func TestCutEachTwoBytes(t *testing.T) {
	for i := range 1 << 16 {
		s := string([]byte{byte(i >> 8), byte(i)})
		for _, ahead := range []string{"", "# ", ";"} {
			checkCut(t, ahead+s, cutOf(ahead+s))
		}
	}
}

// Runes of three and four bytes, and what is nearly one, in remarks.
func TestCutBytesInRemarks(t *testing.T) {
	tails := []byte{0, 0x7f, 0x80, 0x8f, 0x90, 0x9f, 0xa0, 0xbd, 0xbf, 0xc0, 0xff}
	for lead := 0xc0; lead < 0x100; lead++ {
		for _, a := range tails {
			for _, b := range tails {
				for _, c := range tails {
					s := "#" + string([]byte{byte(lead), a, b, c}) + "\n;"
					checkCut(t, s, cutOf(s))
				}
			}
		}
	}
}

func TestCutWords(t *testing.T) {
	for n := 1; n < 40; n++ {
		for _, s := range []string{strings.Repeat("z", n), "a" + strings.Repeat("0", n-1), strings.Repeat("a9", n)[:n]} {
			want := told{at: api.Place{Line: 1, Col: 2}, e: api.ErrLong}
			if n <= maxWord {
				want = told{tokens: []api.Token{{Kind: wordKind, S: s}}, places: []api.Place{{Line: 1, Col: 2}}}
			}
			checkCut(t, " "+s, want)
			checkCut(t, " "+s+"#", want)
		}
	}
}

func TestCutNumbers(t *testing.T) {
	var sizes []string
	for n := 1; n < 25; n++ {
		for _, digit := range []string{"0", "1", "9"} {
			sizes = append(sizes, strings.Repeat(digit, n))
		}
		sizes = append(sizes, "1"+strings.Repeat("0", n), strings.Repeat("0", n)+"7", "1152921504606846976"[:min(n, 19)], "1152921504606846977"[:min(n, 19)])
	}
	for _, ahead := range []string{"", "-"} {
		for _, size := range sizes {
			for _, unit := range []string{"", "ps", "ns", "us", "ms", "s", "m", "p", "ss", "sps", "ns0", "0ns", "s;", " ns", "-", "{", "S"} {
				s := ahead + size + unit
				checkCut(t, s, cutOf(s))
			}
		}
	}
}

func TestCutLongTexts(t *testing.T) {
	long := told{at: api.Place{Line: 1, Col: 1}, e: api.ErrLong}
	for _, s := range []string{" ", "\n", "#", ";", "é", "A", "\xff"} {
		checkCut(t, strings.Repeat(s, maxText/len(s))+"\n", long)
		checkCut(t, strings.Repeat(s, 2*maxText), long)
	}
	checkCut(t, strings.Repeat(" ", maxText), told{})
	checkCut(t, strings.Repeat("\n", maxText), told{})
	checkCut(t, "#"+strings.Repeat("é", maxText/2-1)+"\n", told{})
	checkCut(t, strings.Repeat("\n", maxText-1)+"A", told{at: api.Place{Line: maxText, Col: 1}, e: api.ErrForm})
	checkCut(t, "#"+strings.Repeat("é", maxText/2-1)+"\xff", told{at: api.Place{Line: 1, Col: maxText/2 + 1}, e: api.ErrForm})
	checkCut(t, strings.Repeat("a", maxText), told{at: api.Place{Line: 1, Col: 1}, e: api.ErrLong})
	checkCut(t, strings.Repeat("5", maxText), told{at: api.Place{Line: 1, Col: 1}, e: api.ErrLong})
	checkCut(t, strings.Repeat("5", maxText-1)+"x", told{at: api.Place{Line: 1, Col: 1}, e: api.ErrForm})
	tokens, places, at, e := Cut(strings.Repeat(";", maxText))
	if len(tokens) != maxText || len(places) != maxText || places[maxText-1].Col != maxText || at != (api.Place{}) || e != api.OK {
		t.Errorf("got %d, %d, %v, %d", len(tokens), len(places), at, e)
	}
}

// What is told is the caller's own.
func TestCutTellsWhatIsNew(t *testing.T) {
	const s = "a 5ns;\n{ b }"
	tokens, places, _, _ := Cut(s)
	for i := range tokens {
		tokens[i], places[i] = api.Token{Kind: 9}, api.Place{Line: 9}
	}
	_ = append(tokens, api.Token{})
	_ = append(places, api.Place{})
	checkCut(t, s, cutOf(s))
	tokens, _, _, _ = Cut(s)
	for _, x := range tokens {
		if isPieceOf(x.S, s) {
			t.Errorf("%q stands in the text that was handed in", x.S)
		}
	}
}
