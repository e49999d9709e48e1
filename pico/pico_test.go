package pico

import (
	"math"
	"math/big"
	"slices"
	"testing"

	"pallet/api"
)

const top = api.MaxTime

// edges are numbers about which something changes: 0, units, products of about
// 2^60, 2^63, 2^64 and beyond, both ends of times, and both ends of int64.
var edges = func() []int64 {
	up := []int64{
		0, 1, 2, 3, 7, 9, 10, 999, 1000, 1001, 1<<20 - 1, 1 << 20, 1000000, 1<<30 - 1, 1 << 30, 1<<30 + 1,
		1 << 31, 1<<32 - 1, 1 << 32, 1<<32 + 1, 1000000000, 1000000000000, 1<<59 - 1, 1 << 59, 1<<59 + 1,
		top / 1000 * 1000, top - 1, top, top + 1, top + 2, 1 << 61, 1 << 62, math.MaxInt64,
	}
	l := slices.Clone(up)
	for _, n := range up {
		l = append(l, -n)
	}
	return append(l, math.MinInt64)
}()

func isTime(n int64) bool { return -top <= n && n <= top }

// told is what a call must answer for n, a number without end.
func told(n *big.Int) (int64, api.Errno) {
	if n.CmpAbs(big.NewInt(top)) > 0 {
		return 0, api.ErrOver
	}
	return n.Int64(), api.OK
}

// P1.1

func TestMay(t *testing.T) {
	for _, n := range edges {
		if May(n) != isTime(n) {
			t.Errorf("May(%d) is %v", n, May(n))
		}
	}
	for i, x := range []struct {
		l    []int64
		want bool
	}{
		{nil, true},
		{[]int64{top, -top, 0}, true},
		{[]int64{top + 1, 0, 0}, false},
		{[]int64{0, -top - 1, 0}, false},
		{[]int64{0, 0, math.MinInt64}, false},
		{[]int64{math.MaxInt64, math.MinInt64}, false},
	} {
		was := slices.Clone(x.l)
		if May(x.l...) != x.want {
			t.Errorf("%d: May(%v) is not %v", i, x.l, x.want)
		}
		if !slices.Equal(x.l, was) {
			t.Errorf("%d: what was handed in is changed", i)
		}
	}
}

func TestAddSubMulByHand(t *testing.T) {
	type call func(a, b int64) (int64, api.Errno)
	for i, x := range []struct {
		f    call
		a, b int64
		want int64
		e    api.Errno
	}{
		{Add, 2, -5, -3, api.OK},
		{Add, top, -top, 0, api.OK},
		{Add, top - 1, 1, top, api.OK},
		{Add, top, 1, 0, api.ErrOver},
		{Add, top, top, 0, api.ErrOver},
		{Add, -top, -1, 0, api.ErrOver},
		{Add, top + 1, -1, 0, api.ErrArg},
		{Add, -1, top + 1, 0, api.ErrArg},
		{Add, math.MaxInt64, math.MaxInt64, 0, api.ErrArg},
		{Sub, 2, -5, 7, api.OK},
		{Sub, 1 - top, 1, -top, api.OK},
		{Sub, -top, 1, 0, api.ErrOver},
		{Sub, top, -1, 0, api.ErrOver},
		{Sub, top + 1, 1, 0, api.ErrArg},
		{Sub, 0, math.MinInt64, 0, api.ErrArg},
		{Mul, -3, 5, -15, api.OK},
		{Mul, -3, -5, 15, api.OK},
		{Mul, 0, -top, 0, api.OK},
		{Mul, 1 << 30, 1 << 30, top, api.OK},
		{Mul, 1 << 30, -1 << 30, -top, api.OK},
		{Mul, 1<<30 + 1, 1 << 30, 0, api.ErrOver},
		{Mul, -1<<30 - 1, 1 << 30, 0, api.ErrOver},
		{Mul, 1 << 32, 1 << 32, 0, api.ErrOver},
		{Mul, 1 << 59, 1 << 5, 0, api.ErrOver},
		{Mul, top, top, 0, api.ErrOver},
		{Mul, -top, top, 0, api.ErrOver},
		{Mul, top + 1, 0, 0, api.ErrArg},
		{Mul, 0, math.MinInt64, 0, api.ErrArg},
	} {
		if n, e := x.f(x.a, x.b); n != x.want || e != x.e {
			t.Errorf("%d: of %d and %d: got %d, %d, not %d, %d", i, x.a, x.b, n, e, x.want, x.e)
		}
	}
}

func TestAddSubMulAtEdges(t *testing.T) {
	calls := []struct {
		name string
		got  func(a, b int64) (int64, api.Errno)
		want func(z, a, b *big.Int) *big.Int
	}{
		{"Add", Add, (*big.Int).Add},
		{"Sub", Sub, (*big.Int).Sub},
		{"Mul", Mul, (*big.Int).Mul},
	}
	for _, c := range calls {
		for _, a := range edges {
			for _, b := range edges {
				want, f := told(c.want(new(big.Int), big.NewInt(a), big.NewInt(b)))
				if !isTime(a) || !isTime(b) {
					want, f = 0, api.ErrArg
				}
				if n, e := c.got(a, b); n != want || e != f {
					t.Errorf("%s(%d, %d): got %d, %d, not %d, %d", c.name, a, b, n, e, want, f)
				}
			}
		}
	}
}

// P1.2

func TestScaleByHand(t *testing.T) {
	for i, x := range []struct {
		a, num, den, n, rest int64
		e                    api.Errno
	}{
		{7, 1, 2, 3, 1, api.OK},
		{-7, 1, 2, -4, 1, api.OK},
		{7, -1, 2, -4, 1, api.OK},
		{-7, -1, 2, 3, 1, api.OK},
		{-8, 1, 2, -4, 0, api.OK},
		{0, -top, top, 0, 0, api.OK},
		{-1, 1, top, -1, top - 1, api.OK},
		{top, top, top, top, 0, api.OK},
		{-top, top, top, -top, 0, api.OK},
		{top, top - 1, top, top - 1, 0, api.OK},
		{top, top, top - 1, 0, 0, api.ErrOver},
		{-top, top, top - 1, 0, 0, api.ErrOver},
		{top, 2, 1, 0, 0, api.ErrOver},
		{top, 16, 1, 0, 0, api.ErrOver},
		{top, top, 1, 0, 0, api.ErrOver},
		// a times num is den times MaxTime, and 1: down it is a time above 0, and none below.
		{768614336404564651, 3, 2, top, 1, api.OK},
		{-768614336404564651, 3, 2, 0, 0, api.ErrOver},
		{768614336404564651, -3, 2, 0, 0, api.ErrOver},
		{-768614336404564651, -3, 2, top, 1, api.OK},
		// The size of the quotient is 2^64 less 1, and what is left: one more goes around.
		{1<<32 - 1, 1<<32 + 1, 1, 0, 0, api.ErrOver},
		{1<<33 - 1, -1<<33 - 1, 4, 0, 0, api.ErrOver},
		// It is den or more in its upper 64 bits.
		{top, top, 1 << 55, 0, 0, api.ErrOver},
		{top, top, 1 << 56, 0, 0, api.ErrOver},
		{top, -top, 1<<56 + 1, 0, 0, api.ErrOver},
		{1<<32 - 1, 1<<32 + 1, 16, 1<<60 - 1, 15, api.OK},
		{1<<32 - 1, -1<<32 - 1, 16, -1 << 60, 1, api.OK},
		{1<<31 + 1, 1 << 31, 4, 0, 0, api.ErrOver},
		{1 << 59, 5, 1, 0, 0, api.ErrOver},
		{1, 1, 0, 0, 0, api.ErrArg},
		{1, 1, -1, 0, 0, api.ErrArg},
		{1, 1, math.MinInt64, 0, 0, api.ErrArg},
		{top, top, 0, 0, 0, api.ErrArg},
		{top + 1, 1, 1, 0, 0, api.ErrArg},
		{1, -top - 1, 1, 0, 0, api.ErrArg},
		{1, 1, top + 1, 0, 0, api.ErrArg},
		{math.MinInt64, 1, 1, 0, 0, api.ErrArg},
	} {
		if n, rest, e := Scale(x.a, x.num, x.den); n != x.n || rest != x.rest || e != x.e {
			t.Errorf("%d: Scale(%d, %d, %d): got %d, %d, %d", i, x.a, x.num, x.den, n, rest, e)
		}
	}
}

func TestScaleAtEdges(t *testing.T) {
	for _, a := range edges {
		for _, num := range edges {
			for _, den := range edges {
				n, rest, e := Scale(a, num, den)
				want, left, f := scaled(a, num, den)
				if n != want || rest != left || e != f {
					t.Errorf("Scale(%d, %d, %d): got %d, %d, %d, not %d, %d, %d", a, num, den, n, rest, e, want, left, f)
				}
			}
		}
	}
}

// scaled is what Scale must answer. (DivMod goes down where its divisor is above 0.)
func scaled(a, num, den int64) (int64, int64, api.Errno) {
	if !isTime(a) || !isTime(num) || !isTime(den) || den < 1 {
		return 0, 0, api.ErrArg
	}
	product := new(big.Int).Mul(big.NewInt(a), big.NewInt(num))
	q, r := new(big.Int).DivMod(product, big.NewInt(den), new(big.Int))
	n, e := told(q)
	if e != api.OK {
		return 0, 0, e
	}
	return n, r.Int64(), api.OK
}

// P1.4: sums, and scaling.

func TestAddedIsTakenAway(t *testing.T) {
	for _, a := range edges {
		for _, b := range edges {
			sum, e := Add(a, b)
			if e != api.OK {
				continue
			}
			if n, e := Sub(sum, b); n != a || e != api.OK {
				t.Errorf("%d and %d, less that: got %d, %d", a, b, n, e)
			}
		}
	}
}

func TestScaledAndBack(t *testing.T) {
	tried := 0
	for _, a := range edges {
		for _, num := range edges {
			for _, den := range edges {
				n, rest, e := Scale(a, num, den)
				if e != api.OK {
					continue
				}
				tried++
				if rest < 0 || rest >= den {
					t.Errorf("Scale(%d, %d, %d): %d is left", a, num, den, rest)
				}
				whole := new(big.Int).Mul(big.NewInt(n), big.NewInt(den))
				whole.Add(whole, big.NewInt(rest))
				if whole.Cmp(new(big.Int).Mul(big.NewInt(a), big.NewInt(num))) != 0 {
					t.Errorf("Scale(%d, %d, %d): %d, and %d left, are not a times num", a, num, den, n, rest)
				}
				if num < den {
					continue // one less of n is then more than one of a on the way back
				}
				back, _, e := Scale(n, den, num)
				if e != api.OK || back > a || back < a-1 || rest == 0 && back != a {
					t.Errorf("Scale(%d, %d, %d) and back: got %d, %d", a, num, den, back, e)
				}
			}
		}
	}
	if tried == 0 {
		t.Error("nothing was scaled")
	}
}
