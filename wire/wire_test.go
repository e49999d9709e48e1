package wire

import (
	"bytes"
	"math"
	"math/big"
	"slices"
	"testing"

	"pallet/api"
)

// numbers are those about which something changes: each power of two and its
// neighbours, so the last and the first number of each width and of each count
// of groups, 0 and the greatest one.
var numbers = func() []uint64 {
	l := []uint64{0, 1, 2, 3, 300, 1000000, 0x0123456789abcdef, 0xfedcba9876543210, 0x8102040810204081}
	for i := range 64 {
		p := uint64(1) << i
		l = append(l, p-1, p, p+1)
	}
	return append(l, math.MaxUint64-1, math.MaxUint64)
}()

// signed are the numbers to both sides of 0.
var signed = func() []int64 {
	var l []int64
	for _, n := range numbers {
		l = append(l, int64(n), -int64(n))
	}
	return append(l, math.MinInt64, math.MinInt64+1, math.MaxInt64-1, math.MaxInt64)
}()

// fixedBytes are what a fixed number's bytes must be.
func fixedBytes(width int, n uint64) []byte {
	return new(big.Int).SetUint64(n).FillBytes(make([]byte, width))
}

// varyBytes are what a number's bytes must be when it varies: from the last one on.
func varyBytes(n *big.Int) []byte {
	base := big.NewInt(128)
	q, r := new(big.Int).DivMod(n, base, new(big.Int))
	l := []byte{byte(r.Int64())}
	for q.Sign() > 0 {
		q, r = new(big.Int).DivMod(q, base, new(big.Int))
		l = append(l, byte(r.Int64())+128)
	}
	slices.Reverse(l)
	return l
}

// folded is a signed number's number.
func folded(n int64) *big.Int {
	z := new(big.Int).Mul(big.NewInt(2), big.NewInt(n))
	if n < 0 {
		z.Neg(z).Sub(z, big.NewInt(1))
	}
	return z
}

func join(l ...[]byte) []byte { return slices.Concat(l...) }

// ahead and behind are what stands around what is written and read; each byte
// of them could be a part of a number.
var (
	ahead  = [][]byte{nil, {0}, {128}, {255, 255, 128}, {9, 129}}
	behind = [][]byte{nil, {0}, {128}, {255, 255}, {1, 2, 3, 4, 5, 6, 7, 8, 9, 10, 11}}
)

// writes are all the calls that write, each with something of its own to write,
// and how that begins.
var writes = []struct {
	name string
	call func(b []byte) []byte
	want []byte
}{
	{"Fixed", func(b []byte) []byte { l, _ := Fixed(b, 3, 0x10203); return l }, []byte{1, 2, 3}},
	{"Vary", func(b []byte) []byte { return Vary(b, 300, 5) }, []byte{130, 44, 5}},
	{"Vary of none", func(b []byte) []byte { return Vary(b) }, nil},
	{"Sign", func(b []byte) []byte { return Sign(b, 150, -3) }, []byte{130, 44, 5}},
	{"Sign of none", func(b []byte) []byte { return Sign(b) }, nil},
	{"Record", func(b []byte) []byte { l, _ := Record(b, 8, []byte{6}); return l }, []byte{8, 1, 6}},
	{"Record without a body", func(b []byte) []byte { l, _ := Record(b, 8, nil); return l }, []byte{8, 0}},
}

// What is told is new: nothing is written into what was handed in, nor behind
// it, and the answer stays as it is whatever becomes of that.
func TestWrittenIsNew(t *testing.T) {
	for _, w := range writes {
		for _, n := range []int{0, 1, 4} {
			whole := []byte{7, 7, 7, 7, 50, 51, 52, 53, 54, 55}
			was := bytes.Clone(whole)
			got := w.call(whole[:n])
			if !bytes.Equal(whole, was) {
				t.Errorf("%s: what was handed in became %v", w.name, whole)
			}
			want := join(was[:n], w.want)
			if !bytes.Equal(got, want) {
				t.Errorf("%s: got %v, not %v", w.name, got, want)
			}
			for i := range whole {
				whole[i] = 99
			}
			if !bytes.Equal(got, want) {
				t.Errorf("%s: the answer shares memory with what was handed in", w.name)
			}
			was = bytes.Clone(whole)
			got = got[:cap(got)]
			for i := range got {
				got[i] = 33
			}
			if !bytes.Equal(whole, was) {
				t.Errorf("%s: what was handed in shares memory with the answer", w.name)
			}
		}
	}
}

// P2.1

func TestFixedByHand(t *testing.T) {
	for i, x := range []struct {
		b     []byte
		width int
		n     uint64
		want  []byte
		e     api.Errno
	}{
		{nil, 2, 300, []byte{1, 44}, api.OK},
		{[]byte{9, 8}, 2, 300, []byte{9, 8, 1, 44}, api.OK},
		{nil, 1, 0, []byte{0}, api.OK},
		{nil, 1, 255, []byte{255}, api.OK},
		{nil, 1, 256, nil, api.ErrArg},
		{nil, 2, 1<<16 - 1, []byte{255, 255}, api.OK},
		{nil, 2, 1 << 16, nil, api.ErrArg},
		{nil, 4, 7, []byte{0, 0, 0, 7}, api.OK},
		{nil, 7, 1<<56 - 1, []byte{255, 255, 255, 255, 255, 255, 255}, api.OK},
		{nil, 7, 1 << 56, nil, api.ErrArg},
		{nil, 8, 0, []byte{0, 0, 0, 0, 0, 0, 0, 0}, api.OK},
		{nil, 8, 0x0102030405060708, []byte{1, 2, 3, 4, 5, 6, 7, 8}, api.OK},
		{nil, 8, math.MaxUint64, []byte{255, 255, 255, 255, 255, 255, 255, 255}, api.OK},
		{[]byte{9}, 0, 0, nil, api.ErrArg},
		{[]byte{9}, 9, 0, nil, api.ErrArg},
		{[]byte{9}, -1, 0, nil, api.ErrArg},
		{nil, 0, math.MaxUint64, nil, api.ErrArg},
		{nil, math.MinInt, 1, nil, api.ErrArg},
		{nil, math.MaxInt, 1, nil, api.ErrArg},
		// Eight times these go around to 8 and to 64.
		{nil, 1<<61 + 1, 1, nil, api.ErrArg},
		{nil, math.MinInt + 8, 1, nil, api.ErrArg},
	} {
		if l, e := Fixed(x.b, x.width, x.n); !bytes.Equal(l, x.want) || e != x.e {
			t.Errorf("%d: Fixed(%v, %d, %d): got %v, %d", i, x.b, x.width, x.n, l, e)
		}
	}
}

func TestFixedOfAllWidths(t *testing.T) {
	for width := 1; width <= 8; width++ {
		for _, n := range numbers {
			if new(big.Int).SetUint64(n).BitLen() > 8*width {
				if l, e := Fixed([]byte{9}, width, n); l != nil || e != api.ErrArg {
					t.Errorf("Fixed(.., %d, %d): got %v, %d", width, n, l, e)
				}
				continue
			}
			want := fixedBytes(width, n)
			for _, a := range ahead {
				l, e := Fixed(a, width, n)
				if !bytes.Equal(l, join(a, want)) || e != api.OK {
					t.Errorf("Fixed(%v, %d, %d): got %v, %d", a, width, n, l, e)
				}
				for _, z := range behind {
					got, at, e := TakeFixed(join(l, z), len(a), width)
					if got != n || at != len(a)+width || e != api.OK {
						t.Errorf("TakeFixed of %v behind %v, ahead of %v: got %d, %d, %d", want, a, z, got, at, e)
					}
				}
			}
		}
	}
}

func TestTakeFixedIsWrong(t *testing.T) {
	text := []byte{1, 2, 3, 4, 5, 6, 7, 8, 9}
	for i, x := range []struct {
		b         []byte
		at, width int
		e         api.Errno
	}{
		{text, 0, 0, api.ErrArg},
		{text, 0, 9, api.ErrArg},
		{text, 0, -1, api.ErrArg},
		{text, 0, math.MinInt, api.ErrArg},
		{text, 0, math.MaxInt, api.ErrArg},
		{text, -1, 1, api.ErrArg},
		{text, -1, 0, api.ErrArg},
		{text, math.MinInt, 8, api.ErrArg},
		{nil, -1, 1, api.ErrArg},
		// A wrong width is named ahead of a text that ends too soon.
		{text, 9, 0, api.ErrArg},
		{text, math.MaxInt, 9, api.ErrArg},
		{nil, 0, 9, api.ErrArg},
		{nil, 0, 1, api.ErrShort},
		{nil, 0, 8, api.ErrShort},
		{text, 2, 8, api.ErrShort},
		{text, 8, 2, api.ErrShort},
		{text, 9, 1, api.ErrShort},
		{text, 10, 1, api.ErrShort},
		{text, math.MaxInt, 1, api.ErrShort},
		{text, math.MaxInt, 8, api.ErrShort},
		{text, math.MaxInt - 8, 8, api.ErrShort},
	} {
		if n, at, e := TakeFixed(x.b, x.at, x.width); n != 0 || at != 0 || e != x.e {
			t.Errorf("%d: TakeFixed(%v, %d, %d): got %d, %d, %d", i, x.b, x.at, x.width, n, at, e)
		}
	}
}

// P2.2

func TestVaryByHand(t *testing.T) {
	for i, x := range []struct {
		b    []byte
		n    []uint64
		want []byte
	}{
		{nil, []uint64{0}, []byte{0}},
		{nil, []uint64{127}, []byte{127}},
		{nil, []uint64{128}, []byte{129, 0}},
		{nil, []uint64{300}, []byte{130, 44}},
		{nil, []uint64{1<<14 - 1}, []byte{255, 127}},
		{nil, []uint64{1 << 14}, []byte{129, 128, 0}},
		{nil, []uint64{1<<63 - 1}, []byte{255, 255, 255, 255, 255, 255, 255, 255, 127}},
		{nil, []uint64{1 << 63}, []byte{129, 128, 128, 128, 128, 128, 128, 128, 128, 0}},
		{nil, []uint64{math.MaxUint64}, []byte{129, 255, 255, 255, 255, 255, 255, 255, 255, 127}},
		{nil, nil, nil},
		{[]byte{9, 128}, nil, []byte{9, 128}},
		{[]byte{9, 128}, []uint64{128, 0, 0, 300, 1}, []byte{9, 128, 129, 0, 0, 0, 130, 44, 1}},
	} {
		was := slices.Clone(x.n)
		if l := Vary(x.b, x.n...); !bytes.Equal(l, x.want) {
			t.Errorf("%d: Vary(%v, %v): got %v", i, x.b, x.n, l)
		}
		if !slices.Equal(x.n, was) {
			t.Errorf("%d: the numbers are changed", i)
		}
	}
}

func TestSignByHand(t *testing.T) {
	for i, x := range []struct {
		b    []byte
		n    []int64
		want []byte
	}{
		{nil, []int64{0, -1, 1, -2, 2}, []byte{0, 1, 2, 3, 4}},
		{nil, []int64{63, -64}, []byte{126, 127}},
		{nil, []int64{64, -65}, []byte{129, 0, 129, 1}},
		{nil, []int64{math.MaxInt64}, []byte{129, 255, 255, 255, 255, 255, 255, 255, 255, 126}},
		{nil, []int64{math.MinInt64}, []byte{129, 255, 255, 255, 255, 255, 255, 255, 255, 127}},
		{nil, nil, nil},
		{[]byte{9, 128}, nil, []byte{9, 128}},
		{[]byte{9, 128}, []int64{-150, 0}, []byte{9, 128, 130, 43, 0}},
	} {
		was := slices.Clone(x.n)
		if l := Sign(x.b, x.n...); !bytes.Equal(l, x.want) {
			t.Errorf("%d: Sign(%v, %v): got %v", i, x.b, x.n, l)
		}
		if !slices.Equal(x.n, was) {
			t.Errorf("%d: the numbers are changed", i)
		}
	}
}

func TestVaryIsWrittenAndRead(t *testing.T) {
	for _, n := range numbers {
		want := varyBytes(new(big.Int).SetUint64(n))
		for _, a := range ahead {
			l := Vary(a, n)
			if !bytes.Equal(l, join(a, want)) {
				t.Errorf("Vary(%v, %d): got %v", a, n, l)
			}
			for _, z := range behind {
				got, at, e := TakeVary(join(l, z), len(a))
				if got != n || at != len(a)+len(want) || e != api.OK {
					t.Errorf("TakeVary of %v behind %v, ahead of %v: got %d, %d, %d", want, a, z, got, at, e)
				}
			}
			for end := len(a); end < len(l); end++ {
				if got, at, e := TakeVary(l[:end], len(a)); got != 0 || at != 0 || e != api.ErrShort {
					t.Errorf("TakeVary(%v, %d): got %d, %d, %d", l[:end], len(a), got, at, e)
				}
			}
		}
	}
}

func TestSignIsWrittenAndRead(t *testing.T) {
	for _, n := range signed {
		want := varyBytes(folded(n))
		for _, a := range ahead {
			l := Sign(a, n)
			if !bytes.Equal(l, join(a, want)) {
				t.Errorf("Sign(%v, %d): got %v", a, n, l)
			}
			for _, z := range behind {
				got, at, e := TakeSign(join(l, z), len(a))
				if got != n || at != len(a)+len(want) || e != api.OK {
					t.Errorf("TakeSign of %v behind %v, ahead of %v: got %d, %d, %d", want, a, z, got, at, e)
				}
			}
			for end := len(a); end < len(l); end++ {
				if got, at, e := TakeSign(l[:end], len(a)); got != 0 || at != 0 || e != api.ErrShort {
					t.Errorf("TakeSign(%v, %d): got %d, %d, %d", l[:end], len(a), got, at, e)
				}
			}
		}
	}
}

// Many numbers at once are those numbers one by one.
func TestNumbersFollowEachOther(t *testing.T) {
	all, signs := Vary([]byte{255}, numbers...), Sign([]byte{255}, signed...)
	at := 1
	for _, n := range numbers {
		got, next, e := TakeVary(all, at)
		if got != n || e != api.OK {
			t.Fatalf("at %d: got %d, %d, not %d", at, got, e, n)
		}
		at = next
	}
	if at != len(all) {
		t.Errorf("the numbers end at %d of %d", at, len(all))
	}
	at = 1
	for _, n := range signed {
		got, next, e := TakeSign(signs, at)
		if got != n || e != api.OK {
			t.Fatalf("at %d: got %d, %d, not %d", at, got, e, n)
		}
		at = next
	}
	if at != len(signs) {
		t.Errorf("the signed numbers end at %d of %d", at, len(signs))
	}
}

// wrongNumbers are texts and places at which there is no number that varies.
var wrongNumbers = []struct {
	b  []byte
	at int
	e  api.Errno
}{
	{nil, -1, api.ErrArg},
	{[]byte{1}, -1, api.ErrArg},
	{[]byte{128}, -1, api.ErrArg},
	{[]byte{1}, math.MinInt, api.ErrArg},
	{nil, 0, api.ErrShort},
	{[]byte{}, 0, api.ErrShort},
	{[]byte{1}, 1, api.ErrShort},
	{[]byte{1}, 2, api.ErrShort},
	{nil, math.MaxInt, api.ErrShort},
	{[]byte{1}, math.MaxInt, api.ErrShort},
	{[]byte{129}, 0, api.ErrShort},
	{[]byte{255, 255, 128}, 0, api.ErrShort},
	{[]byte{0, 129}, 1, api.ErrShort},
	// A first byte of 128 is wrong with nothing behind it, too.
	{[]byte{128}, 0, api.ErrForm},
	{[]byte{128, 0}, 0, api.ErrForm},
	{[]byte{128, 1}, 0, api.ErrForm},
	{[]byte{128, 128}, 0, api.ErrForm},
	{[]byte{5, 128, 1}, 1, api.ErrForm},
	// The tenth byte makes it 65 bits, then 70.
	{[]byte{130, 128, 128, 128, 128, 128, 128, 128, 128, 0}, 0, api.ErrForm},
	{[]byte{130, 128, 128, 128, 128, 128, 128, 128, 128, 128}, 0, api.ErrForm},
	{[]byte{131, 255, 255, 255, 255, 255, 255, 255, 255, 127}, 0, api.ErrForm},
	{[]byte{255, 255, 255, 255, 255, 255, 255, 255, 255, 127}, 0, api.ErrForm},
	{[]byte{192, 128, 128, 128, 128, 128, 128, 128, 128, 0}, 0, api.ErrForm},
	// Nine bytes are not too many of any number, and the text ends behind them.
	{[]byte{255, 255, 255, 255, 255, 255, 255, 255, 255}, 0, api.ErrShort},
	{[]byte{130, 128, 128, 128, 128, 128, 128, 128, 128}, 0, api.ErrShort},
	// Ten bytes have room in 64 bits; an eleventh is one too many, if there is one.
	{[]byte{129, 128, 128, 128, 128, 128, 128, 128, 128, 128}, 0, api.ErrShort},
	{[]byte{129, 255, 255, 255, 255, 255, 255, 255, 255, 255}, 0, api.ErrShort},
	{[]byte{129, 128, 128, 128, 128, 128, 128, 128, 128, 128, 0}, 0, api.ErrForm},
	{[]byte{129, 255, 255, 255, 255, 255, 255, 255, 255, 255, 127}, 0, api.ErrForm},
	{[]byte{129, 128, 128, 128, 128, 128, 128, 128, 128, 128, 128}, 0, api.ErrForm},
	{[]byte{7, 7, 129, 128, 128, 128, 128, 128, 128, 128, 128, 128, 1}, 2, api.ErrForm},
	// The bits that are set go around to 0 in 64 bits.
	{[]byte{129, 128, 128, 128, 128, 128, 128, 128, 128, 128, 128, 0}, 0, api.ErrForm},
}

func TestTakeVaryIsWrong(t *testing.T) {
	for i, x := range wrongNumbers {
		if n, at, e := TakeVary(x.b, x.at); n != 0 || at != 0 || e != x.e {
			t.Errorf("%d: TakeVary(%v, %d): got %d, %d, %d, not %d", i, x.b, x.at, n, at, e, x.e)
		}
		if n, at, e := TakeSign(x.b, x.at); n != 0 || at != 0 || e != x.e {
			t.Errorf("%d: TakeSign(%v, %d): got %d, %d, %d, not %d", i, x.b, x.at, n, at, e, x.e)
		}
	}
}

// P2.4, of numbers: what is read is written as it stood there.

// short calls f with each text of at most n of the bytes of an alphabet.
func short(n int, alphabet []byte, f func(b []byte)) {
	var grow func(b []byte)
	grow = func(b []byte) {
		f(b)
		if len(b) == n {
			return
		}
		for _, x := range alphabet {
			grow(append(bytes.Clone(b), x))
		}
	}
	grow(nil)
}

func TestReadNumbersAreWrittenSo(t *testing.T) {
	every := make([]byte, 256)
	for i := range every {
		every[i] = byte(i)
	}
	read := 0
	try := func(b []byte) {
		if n, at, e := TakeVary(b, 0); e == api.OK {
			read++
			if l := Vary(nil, n); !bytes.Equal(l, b[:at]) {
				t.Errorf("%v is read as %d, and written %v", b, n, l)
			}
		}
		if n, at, e := TakeSign(b, 0); e == api.OK {
			if l := Sign(nil, n); !bytes.Equal(l, b[:at]) {
				t.Errorf("%v is read as %d, signed, and written %v", b, n, l)
			}
		}
		for width := 1; width <= 8; width++ {
			n, at, e := TakeFixed(b, 0, width)
			if e != api.OK {
				continue
			}
			if l, e := Fixed(nil, width, n); !bytes.Equal(l, b[:at]) || e != api.OK {
				t.Errorf("%v is read as %d in %d bytes, and written %v, %d", b, n, width, l, e)
			}
		}
	}
	short(2, every, try)
	short(10, []byte{0, 129, 255}, try)
	if read == 0 {
		t.Error("nothing was read")
	}
}
