package print

import (
	"strings"
	"testing"

	"pallet/api"
	"pallet/sample"
)

// P16.3

func TestTidyByHand(t *testing.T) {
	for s, want := range map[string]string{
		"":                                "",
		" \t\n# a;\n#":                    "",
		"a;":                              "a;\n",
		"a;\n":                            "a;\n",
		"a;\n\n":                          "a;\n",
		" a ;b\n;":                        "a;\nb;\n",
		"a{b 5000ps;}":                    "a {\n  b 5ns;\n}\n",
		"a 007 -0 -0ms 1000;":             "a 7 0 0ps 1000;\n",
		"a 1000ns 60s 1500ms -2000us 0s;": "a 1us 60s 1500ms -2ms 0ps;\n",
		"a{}":                             "a {\n}\n",
		"a{b{}c;# é\n}d;":                 "a {\n  b {\n  }\n  c;\n}\nd;\n",
		"a{a{a{a{a{b;}}}}}":               "a {\n  a {\n    a {\n      a {\n        a {\n          b;\n        }\n      }\n    }\n  }\n}\n",
		"at 5ns { cut 1; } # so\nend;":    "at 5ns {\n  cut 1;\n}\nend;\n",
	} {
		got, at, e := Tidy(s)
		if got != want || at != (api.Place{}) || e != api.OK {
			t.Errorf("Tidy(%.99q): got %.400q, %v, %d", s, got, at, e)
		}
		if !Is(want) || Is(s) != (s == want) {
			t.Errorf("Is(%.99q): got %v, of the tidy one %v", s, Is(s), Is(want))
		}
		checkTidy(t, s)
	}
}

func TestTidyFaultsByHand(t *testing.T) {
	type fault struct {
		line, col int
		e         api.Errno
	}
	for s, want := range map[string]fault{
		"a;\nB":                {2, 1, api.ErrForm},
		"a;\nb":                {2, 2, api.ErrShort},
		"a {\n  b;\n":          {3, 1, api.ErrShort},
		"a {\n  b;\n}\n}\n":    {4, 1, api.ErrForm},
		"a 1 2 3 4 5 6 7 8 9;": {1, 19, api.ErrFull},
		"a{a{a{a{a{\na {\n":    {2, 3, api.ErrLong},
		"a 1000000s;":          {1, 3, api.ErrOver},
		"abcdefghijklmnopq;":   {1, 1, api.ErrLong},
		"\xff":                 {1, 1, api.ErrForm},
		"a;\n# \xff\n":         {2, 3, api.ErrForm},
		strings.Repeat("a;\n", maxStmts) + "a;\n":   {maxStmts + 1, 1, api.ErrFull},
		"a;\n" + strings.Repeat("\n", maxText-2):    {1, 1, api.ErrLong},
		"a b;\n" + strings.Repeat("\n", maxText-10): {1, 3, api.ErrForm},
	} {
		got, at, e := Tidy(s)
		if got != "" || at != (api.Place{Line: want.line, Col: want.col}) || e != want.e {
			t.Errorf("Tidy(%.99q): got %.99q, %v, %d, want %v", s, got, at, e, want)
		}
		if Is(s) {
			t.Errorf("Is(%.99q): got true", s)
		}
		checkTidy(t, s)
	}
}

// eachTidy hands on all texts of up to so many pieces of tidy ones; most of them are not tidy, or are wrong.
func eachTidy(most int, hand func(s string)) {
	hand("")
	for _, x := range []string{"a", " 5", ";\n", " {\n", "  ", "}\n"} {
		if most > 0 {
			eachTidy(most-1, func(s string) { hand(x + s) })
		}
	}
}

func TestTidyShortTexts(t *testing.T) {
	sample.EachText(7, func(s string) { checkTidy(t, s) })
	eachTidy(6, func(s string) { checkTidy(t, s) })
}

func TestTidyDrawnTexts(t *testing.T) {
	met := map[api.Errno]int{}
	for i := range uint64(10000) {
		met[checkTidy(t, sample.Text(i))]++
	}
	for e, least := range map[api.Errno]int{api.OK: 2500, api.ErrForm: 250, api.ErrShort: 250, api.ErrFull: 25, api.ErrLong: 25, api.ErrOver: 25} {
		if met[e] < least {
			t.Errorf("of error %d there are %d texts", e, met[e])
		}
	}
}

// Whatever bytes there are, Tidy and Is end.
func TestTidyEachTwoBytes(t *testing.T) {
	for i := range 1 << 16 {
		checkTidy(t, string([]byte{byte(i >> 8), byte(i)}))
	}
}

// A text may be short enough, but not when it is tidied.
func TestTidyLongTexts(t *testing.T) {
	for blocks := range maxDepth {
		for many, want := range map[int]api.Errno{maxText - 1: api.OK, maxText: api.OK, maxText + 1: api.ErrLong, maxText + 500: api.ErrLong} {
			l := longText(many, blocks)
			s := closeText(l)
			if len(s) > maxText {
				t.Fatalf("%d bytes in %d blocks are %d", many, blocks, len(s))
			}
			tidy, at, e := Tidy(s)
			if e != want || e == api.ErrLong && at != (api.Place{Line: 1, Col: 1}) || e == api.OK && len(tidy) != many {
				t.Errorf("%d bytes in %d blocks: got %d bytes, %v, %d", many, blocks, len(tidy), at, e)
			}
			checkTidy(t, s)
			if is := Is(tidy); is != (len(tidy) == many || tidy == "") {
				t.Errorf("%d bytes in %d blocks: Is: got %v", many, blocks, is)
			}
		}
	}
}

// One byte that is another one, is left out, or is more makes a tidy text another one, or none.
func TestIsOfSpoiltTexts(t *testing.T) {
	for i := range uint64(20) {
		tidy, e := Print(sample.Stmts(1+int(i%3), 1+int(i%4), i)...)
		if e != api.OK || !Is(tidy) {
			t.Fatalf("%.400q is not tidy", tidy)
		}
		for at := range tidy {
			for _, x := range []string{"", " ", "\n", "\t", "0", "9", "z", "-", ";", "{", "}", "#", "\xff"} {
				checkTidy(t, tidy[:at]+x+tidy[at:])
				checkTidy(t, tidy[:at]+x+tidy[at+1:])
			}
		}
	}
}

// What is told is no part of the text, a tidy one's neither.
func TestTidyTellsWhatIsNew(t *testing.T) {
	for i := range uint64(200) {
		once, _, _ := Tidy(sample.Text(i))
		if twice, _, _ := Tidy(once); once != "" && isPieceOf(twice, once) {
			t.Fatalf("%.400q stands in the text that was handed in", twice)
		}
	}
}
