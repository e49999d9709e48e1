package pico

import (
	"strconv"
	"strings"

	"pallet/api"
)

// unit is a unit of times: how it is written, and how many picoseconds it has.
type unit struct {
	name string
	ps   int64
}

// units rise: Text takes the last one that fits.
var units = [5]unit{{"ps", 1}, {"ns", 1000}, {"us", 1000000}, {"ms", 1000000000}, {"s", 1000000000000}}

// Unit is a unit's picoseconds, Text a time's text, Read reads one.
func Unit(s string) (int64, bool) {
	for _, u := range units {
		if u.name == s {
			return u.ps, true
		}
	}
	return 0, false
}

func Text(t int64) (string, api.Errno) {
	if !May(t) {
		return "", api.ErrArg
	}
	u := greatest(t)
	return strconv.FormatInt(t/u.ps, 10) + u.name, api.OK
}

// greatest is the greatest unit of which t is a whole number; 0 is one of each,
// and is written by the smallest.
func greatest(t int64) unit {
	best := units[0]
	for _, u := range units {
		if t != 0 && t%u.ps == 0 {
			best = u
		}
	}
	return best
}

func Read(s string) (int64, api.Errno) {
	rest, minus := strings.CutPrefix(s, "-")
	name := strings.TrimLeft(rest, "0123456789")
	ps, is := Unit(name)
	if !is || len(name) == len(rest) {
		return 0, api.ErrForm
	}
	n := number(rest[:len(rest)-len(name)])
	if minus {
		n = -n
	}
	if !May(n) {
		// Mul would call it a wrong argument; here it is a number that goes over.
		return 0, api.ErrOver
	}
	return Mul(n, ps)
}

// number is what digits tell; of more than a time, one that is none, since
// there may be any number of digits.
func number(digits string) int64 {
	n := int64(0)
	for i := range len(digits) {
		if n > api.MaxTime/10 {
			return api.MaxTime + 1
		}
		n = 10*n + int64(digits[i]-'0')
	}
	return n
}
