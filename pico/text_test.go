package pico

import (
	"math"
	"slices"
	"strings"
	"testing"

	"pallet/api"
)

// P1.3

func TestUnit(t *testing.T) {
	for s, want := range map[string]int64{"ps": 1, "ns": 1e3, "us": 1e6, "ms": 1e9, "s": 1e12} {
		if n, is := Unit(s); n != want || !is {
			t.Errorf("Unit(%q): got %d, %v", s, n, is)
		}
	}
	for _, s := range []string{"", "p", "m", "n", "u", "S", "PS", "Ns", "min", "h", "sec", "ss", "nsns", " s", "s ", "ps\n", "\x00s", "1s", "-s", "µs", "\xb5s"} {
		if n, is := Unit(s); n != 0 || is {
			t.Errorf("Unit(%q): got %d, %v", s, n, is)
		}
	}
}

func TestText(t *testing.T) {
	for n, want := range map[int64]string{
		0: "0ps", 1: "1ps", -1: "-1ps", 7: "7ps", 999: "999ps", 1000: "1ns", 1001: "1001ps", -1000: "-1ns",
		5000: "5ns", 10000: "10ns", 999000: "999ns", 1000000: "1us", 1001000: "1001ns", -12000000: "-12us",
		1e9: "1ms", 3e9: "3ms", 1000001000: "1000001ns", 1e12: "1s", 3e12: "3s", -60e12: "-60s", 1001e9: "1001ms",
		3000000000001: "3000000000001ps", 1152921e12: "1152921s",
		top: "1152921504606846976ps", -top: "-1152921504606846976ps", top - 976: "1152921504606846ns",
	} {
		if s, e := Text(n); s != want || e != api.OK {
			t.Errorf("Text(%d): got %q, %d, not %q", n, s, e, want)
		}
	}
	for _, n := range []int64{top + 1, -top - 1, math.MaxInt64, math.MinInt64} {
		if s, e := Text(n); s != "" || e != api.ErrArg {
			t.Errorf("Text(%d): got %q, %d", n, s, e)
		}
	}
}

func TestRead(t *testing.T) {
	many := strings.Repeat("0", 1000)
	for s, want := range map[string]int64{
		"0ps": 0, "-0ps": 0, "0s": 0, "-000ms": 0, "5ns": 5000, "-5ns": -5000, "007ps": 7, "1000ps": 1000,
		"12us": 12e6, "3ms": 3e9, "-3s": -3e12, "0123456789ps": 123456789,
		"1152921504606846976ps": top, "-1152921504606846976ps": -top, "1152921504606846ns": top - 976,
		"1152921s": 1152921e12, "-1152921s": -1152921e12,
		many + "5ns": 5000, "-" + many + "7ps": -7, many + "s": 0,
	} {
		if n, e := Read(s); n != want || e != api.OK {
			t.Errorf("Read(%q): got %d, %d, not %d", s, n, e, want)
		}
	}
}

func TestReadGoesOver(t *testing.T) {
	nines := strings.Repeat("9", 1000)
	for _, s := range []string{
		"1152921504606846977ps", "-1152921504606846977ps", "1152921504606847ns", "1152922s", "-1152922s",
		"1152921504606846976s", "1152921504606846977s", "-1152921504606846977s",
		"9223372036854775807ps", "9223372036854775808ps", "-9223372036854775808ps", "9223372036854775808s",
		"18446744073709551615ps", "18446744073709551616ps", "18446744073709551617ns", "18446744073709552ns",
		"99999999999999999999ps", nines + "ps", "-" + nines + "s",
	} {
		if n, e := Read(s); n != 0 || e != api.ErrOver {
			t.Errorf("Read(%q): got %d, %d", s, n, e)
		}
	}
}

func TestReadIsNoTime(t *testing.T) {
	for _, s := range []string{
		"", "-", "5", "-5", "ns", "-ns", "s", "0", "+5ns", "--5ns", "-+5ns", "5-ns", " 5ns", "5 ns", "5ns ", "- 5ns",
		"\n5ns", "5ns\n", "5nss", "5nsx", "5ns5", "5ns;", "x5ns", "5x", "5NS", "5min", "5m", "1.5ns", "1e3ns", "0x5ns",
		"1_000ns", "5,0ns", "٥ns", "５ns", "5µs", "\xff5ns", "5\xffns", "5ns\xff", "5ns\x00", "\x005ns",
		// It is no number with a unit, however far it goes over.
		"99999999999999999999", "99999999999999999999x", "-99999999999999999999 s",
	} {
		if n, e := Read(s); n != 0 || e != api.ErrForm {
			t.Errorf("Read(%q): got %d, %d", s, n, e)
		}
	}
}

// P1.4: texts.

func TestWrittenIsRead(t *testing.T) {
	l := slices.Clone(edges)
	for _, u := range []int64{1, 1e3, 1e6, 1e9, 1e12} {
		for _, n := range []int64{1, 9, 10, 12, 999, 1000, 1001, 1000000, 1152921} {
			l = append(l, n*u, -n*u)
		}
	}
	for _, n := range l {
		s, e := Text(n)
		if e != api.OK {
			if isTime(n) {
				t.Errorf("Text(%d): got %d", n, e)
			}
			continue
		}
		if back, e := Read(s); back != n || e != api.OK {
			t.Errorf("%d is written %q, and read %d, %d", n, s, back, e)
		}
	}
}
