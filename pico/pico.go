// Package pico is layer 1: see shared/doc/01-pico.md.
package pico

import (
	"math/bits"
	"slices"

	"pallet/api"
)

// May tells whether all are times, Add, Sub, Mul and Scale reckon.
func May(t ...int64) bool {
	return !slices.ContainsFunc(t, func(x int64) bool {
		return x < -api.MaxTime || x > api.MaxTime
	})
}

func Add(a, b int64) (int64, api.Errno) {
	if !May(a, b) {
		return 0, api.ErrArg
	}
	// Two times are at most 2^61 from 0 together, so the sum stays within 64 bits.
	return bounded(a + b)
}

func Sub(a, b int64) (int64, api.Errno) {
	if !May(a, b) {
		return 0, api.ErrArg
	}
	return bounded(a - b)
}

func Mul(a, b int64) (int64, api.Errno) {
	n, _, e := Scale(a, b, 1)
	return n, e
}

func Scale(a, num, den int64) (int64, int64, api.Errno) {
	if !May(a, num, den) || den < 1 {
		return 0, 0, api.ErrArg
	}
	high, low := bits.Mul64(size(a), size(num))
	d := uint64(den)
	if high >= d {
		// Div64 panics here; the quotient has more than 64 bits.
		return 0, 0, api.ErrOver
	}
	n, rest := bits.Div64(high, low, d)
	if n > api.MaxTime {
		return 0, 0, api.ErrOver
	}
	if (a < 0) == (num < 0) {
		return int64(n), int64(rest), api.OK
	}
	return below(int64(n), int64(rest), den)
}

// below turns a quotient and a rest of sizes into those of the number below 0:
// what was cut off toward 0 has to go down instead.
func below(n, rest, den int64) (int64, int64, api.Errno) {
	if rest > 0 {
		n, rest = n+1, den-rest
	}
	n, e := bounded(-n)
	if e != api.OK {
		return 0, 0, e
	}
	return n, rest, api.OK
}

// bounded is n, if it is a time.
func bounded(n int64) (int64, api.Errno) {
	if !May(n) {
		return 0, api.ErrOver
	}
	return n, api.OK
}

// size is how far a time is from 0.
func size(t int64) uint64 {
	if t < 0 {
		return uint64(-t)
	}
	return uint64(t)
}
