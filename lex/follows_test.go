package lex

import (
	"slices"
	"strings"
	"testing"

	"pallet/api"
	"pallet/drawn"
)

// P14.4

// checkJoined holds tokens against what is cut of them when they are joined: all is the same, but that a number stands as it is written.
func checkJoined(t *testing.T, l []api.Token) {
	t.Helper()
	s, e := Join(l...)
	if e != api.OK {
		t.Fatalf("%v: joined: %d", l, e)
	}
	got, _, at, e := Cut(s)
	if e != api.OK || at != (api.Place{}) {
		t.Fatalf("%q: cut: %v, %d", s, at, e)
	}
	want := slices.Clone(l)
	for i := range want {
		want[i].S, _ = textOf(want[i])
	}
	if !slices.Equal(got, want) {
		t.Fatalf("%q: got %v, want %v", s, got, want)
	}
	if again, e := Join(got...); again != s || e != api.OK {
		t.Fatalf("%q is joined again as %q, %d", s, again, e)
	}
}

func TestWhatIsJoinedIsCutAsItWas(t *testing.T) {
	eachText(3, func(s string) {
		if l, _, _, e := Cut(s); e == api.OK {
			checkJoined(t, l)
		}
	})
	for i := range uint64(2000) {
		if l, _, _, e := Cut(drawnText(i)); e == api.OK {
			checkJoined(t, l)
		}
		checkJoined(t, drawnTokens(int(i%50), i, 0))
	}
}

func TestNumbersAtTheirEdgesAreCutAsTheyWere(t *testing.T) {
	var l []api.Token
	for n := int64(1); n < limit; n *= 10 {
		for _, more := range []int64{-1, 0, 1} {
			for _, isTime := range []bool{false, true} {
				l = append(l, api.Token{Kind: numberKind, N: n + more, Time: isTime}, api.Token{Kind: numberKind, N: -n - more, Time: isTime})
			}
		}
	}
	for _, isTime := range []bool{false, true} {
		l = append(l, api.Token{Kind: numberKind, N: limit - 1, Time: isTime}, api.Token{Kind: numberKind, N: 1 - limit, Time: isTime})
	}
	checkJoined(t, l)
}

// gaps may stand between tokens; ahead of a sign, and behind it, nothing needs to.
var gaps = []string{"", " ", "\t", "\n", "  ", " \n\t", "#\n", "# é; A 5x\n", "\n\n# #\n "}

// Remarks, and more spaces, play no part.
func TestGapsPlayNoPart(t *testing.T) {
	for i := range uint64(2000) {
		tokens := drawnTokens(int(i%20), i, 0)
		plain, _ := Join(tokens...)
		want, _, _, _ := Cut(plain)
		draws := drawn.Numbers(len(tokens)+1, i+1)
		s := gaps[draws[0]%uint64(len(gaps))]
		for j, x := range want {
			gap := gaps[draws[j+1]%uint64(len(gaps))]
			if gap == "" && j+1 < len(want) && x.Kind != signKind && want[j+1].Kind != signKind {
				gap = " "
			}
			s += x.S + gap
		}
		got, _, _, e := Cut(s)
		if !slices.Equal(got, want) || e != api.OK {
			t.Fatalf("%q: got %v, %d, want %v", s, got, e, want)
		}
	}
}

// At each token's place its text stands, one behind the other, and between them stand spaces and remarks alone.
func TestEachTokenStandsAtItsPlace(t *testing.T) {
	for i := range uint64(1000) {
		s := drawnText(i)
		tokens, places, _, e := Cut(s)
		if e != api.OK {
			continue
		}
		behind := 0
		for j, x := range tokens {
			at := behind
			for p, e := Where(s, at); p != places[j]; p, e = Where(s, at) {
				if e != api.OK {
					t.Fatalf("%q: nothing stands at %v", s, places[j])
				}
				at++
			}
			if !strings.HasPrefix(s[at:], x.S) {
				t.Fatalf("%q: at %v there is no %q", s, places[j], x.S)
			}
			if l, _, _, e := Cut(s[behind:at]); len(l) != 0 || e != api.OK {
				t.Fatalf("%q: %v stands ahead of %v", s, l, places[j])
			}
			behind = at + len(x.S)
		}
	}
}
