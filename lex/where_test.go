package lex

import (
	"math"
	"strings"
	"testing"

	"pallet/api"
)

// P14.1: places.

func TestWhereByHand(t *testing.T) {
	const s = "a\xffé\n\n∀b\xe2\x88\n"
	for at, want := range []api.Place{{Line: 1, Col: 1}, {Line: 1, Col: 2}, {Line: 1, Col: 3}, {Line: 1, Col: 3}, {Line: 1, Col: 4},
		{Line: 2, Col: 1}, {Line: 3, Col: 1}, {Line: 3, Col: 1}, {Line: 3, Col: 1}, {Line: 3, Col: 2}, {Line: 3, Col: 3}, {Line: 3, Col: 4},
		{Line: 3, Col: 5}, {Line: 4, Col: 1}} {
		if p, e := Where(s, at); p != want || e != api.OK {
			t.Errorf("%d: got %v, %d, want %v", at, p, e, want)
		}
	}
	for _, at := range []int{-1, 14, 15, math.MaxInt, math.MinInt} {
		if p, e := Where(s, at); p != (api.Place{}) || e != api.ErrArg {
			t.Errorf("%d: got %v, %d", at, p, e)
		}
	}
}

func TestWhereOfNothing(t *testing.T) {
	if p, e := Where("", 0); p != (api.Place{Line: 1, Col: 1}) || e != api.OK {
		t.Errorf("got %v, %d", p, e)
	}
	for _, at := range []int{-1, 1} {
		if p, e := Where("", at); p != (api.Place{}) || e != api.ErrArg {
			t.Errorf("%d: got %v, %d", at, p, e)
		}
	}
}

// checkWhere holds a text's places against the chapter's own words, at all bytes and beyond.
func checkWhere(t *testing.T, s string) {
	t.Helper()
	for at := -2; at < len(s)+3; at++ {
		want, wrong := api.Place{}, api.ErrArg
		if 0 <= at && at <= len(s) {
			want, wrong = placeOf(s, at), api.OK
		}
		if p, e := Where(s, at); p != want || e != wrong {
			t.Fatalf("Where(%q, %d): got %v, %d, want %v, %d", s, at, p, e, want, wrong)
		}
	}
}

func TestWhereShortTexts(t *testing.T) {
	eachText(3, func(s string) { checkWhere(t, s) })
}

func TestWhereBytesThatAreNearlyRunes(t *testing.T) {
	tails := []byte{'\n', 'a', 0x80, 0x8f, 0x90, 0x9f, 0xa0, 0xbf, 0xc3}
	for lead := range 0x100 {
		for _, a := range tails {
			for _, b := range tails {
				for _, c := range tails {
					checkWhere(t, string([]byte{byte(lead), a, b, c, 'a'}))
				}
			}
		}
	}
}

func TestWhereDrawnTexts(t *testing.T) {
	for i := range uint64(300) {
		checkWhere(t, drawnText(i))
	}
}

// A text's length is bounded for Cut alone.
func TestWhereLongTexts(t *testing.T) {
	s := strings.Repeat("é", maxText) + "\n" + strings.Repeat(" ", maxText)
	for at, want := range map[int]api.Place{0: {Line: 1, Col: 1}, 2*maxText - 1: {Line: 1, Col: maxText}, 2 * maxText: {Line: 1, Col: maxText + 1},
		2*maxText + 1: {Line: 2, Col: 1}, 3*maxText + 1: {Line: 2, Col: maxText + 1}} {
		if p, e := Where(s, at); p != want || e != api.OK {
			t.Errorf("%d: got %v, %d, want %v", at, p, e, want)
		}
	}
}
