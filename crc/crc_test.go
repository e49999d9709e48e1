package crc

import (
	"bytes"
	"hash/crc32"
	"math"
	"math/big"
	"testing"

	"pallet/api"
)

// filled is a text of n bytes, none of which tells its place by itself.
func filled(n int) []byte {
	b := make([]byte, n)
	for i := range b {
		b[i] = byte(i*i + i>>8 + 3)
	}
	return b
}

// register24 is the register's own words, bit by bit.
func register24(b []byte) uint32 {
	r := uint32(0xb704ce)
	for _, x := range b {
		r ^= uint32(x) << 16
		for range 8 {
			out := r >> 23 & 1
			r = r * 2 % (1 << 24)
			if out == 1 {
				r ^= 0x864cfb
			}
		}
	}
	return r
}

func register32(b []byte) uint32 {
	r := uint32(0xffffffff)
	for _, x := range b {
		r ^= uint32(x)
		for range 8 {
			out := r & 1
			r /= 2
			if out == 1 {
				r ^= 0xedb88320
			}
		}
	}
	return 0xffffffff - r
}

// rest24 is the same by division: what a text, and its beginning, leave of a
// polynomial.
func rest24(b []byte) uint32 {
	n := new(big.Int).SetBytes(b)
	begin := new(big.Int).Lsh(big.NewInt(0xb704ce), uint(8*len(b)))
	n.Lsh(n, 24).Xor(n, begin)
	for n.BitLen() > 24 {
		n.Xor(n, new(big.Int).Lsh(big.NewInt(0x1864cfb), uint(n.BitLen()-25)))
	}
	return uint32(n.Uint64())
}

// P3.1

func TestSumsByHand(t *testing.T) {
	for i, x := range []struct {
		b        []byte
		s24, s32 uint32
	}{
		{nil, 0xb704ce, 0},
		{[]byte{}, 0xb704ce, 0},
		{[]byte("123456789"), 0x21cf02, 0xcbf43926},
		{[]byte{'a'}, 0xf25713, 0xe8b7be43},
		{[]byte("abc"), 0xba1c7b, 0x352441c2},
		{[]byte{0, 0, 0, 0}, 0xf659f3, 0x2144df1c},
		{[]byte{255, 255, 255, 255}, 0x410c77, 0xffffffff},
		// What a text becomes when its own sum follows is the same for all.
		{[]byte("123456789\x21\xcf\x02"), 0, 0xec36de4e},
		{[]byte("123456789\x26\x39\xf4\xcb"), 0x637281, 0x2144df1c},
	} {
		if s := Sum24(x.b...); s != x.s24 {
			t.Errorf("%d: Sum24 of %v: got %x, not %x", i, x.b, s, x.s24)
		}
		if s := Sum32(x.b...); s != x.s32 {
			t.Errorf("%d: Sum32 of %v: got %x, not %x", i, x.b, s, x.s32)
		}
	}
	if s := Sum24('1', '2', '3', '4', '5', '6', '7', '8', '9'); s != 0x21cf02 {
		t.Errorf("Sum24 of bytes one by one: got %x", s)
	}
	if s := Sum32('1', '2', '3', '4', '5', '6', '7', '8', '9'); s != 0xcbf43926 {
		t.Errorf("Sum32 of bytes one by one: got %x", s)
	}
}

// sumsAre holds a text's sums against the register's words, and the library's.
func sumsAre(t *testing.T, b []byte) {
	t.Helper()
	was := bytes.Clone(b)
	if s, want := Sum24(b...), register24(b); s != want {
		t.Errorf("Sum24 of %d bytes that begin with %v: got %x, not %x", len(b), b[:min(len(b), 8)], s, want)
	}
	if s, want := Sum32(b...), crc32.ChecksumIEEE(b); s != want {
		t.Errorf("Sum32 of %d bytes that begin with %v: got %x, not %x", len(b), b[:min(len(b), 8)], s, want)
	}
	if !bytes.Equal(b, was) {
		t.Error("what was handed in is changed")
	}
}

func TestSumsOfAllShortTexts(t *testing.T) {
	for i := range 256 {
		sumsAre(t, []byte{byte(i)})
		for j := range 256 {
			sumsAre(t, []byte{byte(i), byte(j)})
		}
	}
}

func TestSumsOfAllLengths(t *testing.T) {
	for n := range 300 {
		for _, b := range [][]byte{filled(n), make([]byte, n), bytes.Repeat([]byte{255}, n)} {
			sumsAre(t, b)
			if s, want := Sum24(b...), rest24(b); s != want {
				t.Errorf("Sum24 of %d bytes: got %x, by division %x", n, s, want)
			}
			if s, want := Sum32(b...), register32(b); s != want {
				t.Errorf("Sum32 of %d bytes: got %x, by its register %x", n, s, want)
			}
		}
	}
}

// A sum has no bound of its own: only what is sealed has.
func TestSumsOfLongTexts(t *testing.T) {
	for _, n := range []int{1 << 16, api.MaxBytes, api.MaxBytes + 1, 3*api.MaxBytes + 5} {
		sumsAre(t, filled(n))
	}
}

func TestTurnByHand(t *testing.T) {
	for i, x := range []struct {
		b    []byte
		bit  int
		want []byte
		e    api.Errno
	}{
		{[]byte{0, 0}, 0, []byte{128, 0}, api.OK},
		{[]byte{0, 0}, 1, []byte{64, 0}, api.OK},
		{[]byte{0, 0}, 7, []byte{1, 0}, api.OK},
		{[]byte{0, 0}, 8, []byte{0, 128}, api.OK},
		{[]byte{0, 0}, 9, []byte{0, 64}, api.OK},
		{[]byte{0, 0}, 15, []byte{0, 1}, api.OK},
		{[]byte{255, 255}, 9, []byte{255, 191}, api.OK},
		{[]byte{255, 255}, 15, []byte{255, 254}, api.OK},
		{[]byte{0, 0}, 16, nil, api.ErrArg},
		{[]byte{0, 0}, 17, nil, api.ErrArg},
		{[]byte{0, 0}, -1, nil, api.ErrArg},
		// -7 to -1 cut down to whole bytes are byte 0.
		{[]byte{0, 0}, -7, nil, api.ErrArg},
		{[]byte{0, 0}, -8, nil, api.ErrArg},
		{[]byte{0, 0}, math.MinInt, nil, api.ErrArg},
		{[]byte{0, 0}, math.MaxInt, nil, api.ErrArg},
		{[]byte{0, 0}, 1 << 32, nil, api.ErrArg},
		{nil, 0, nil, api.ErrArg},
		{[]byte{}, 0, nil, api.ErrArg},
		{nil, -1, nil, api.ErrArg},
	} {
		if l, e := Turn(x.b, x.bit); !bytes.Equal(l, x.want) || e != x.e {
			t.Errorf("%d: Turn(%v, %d): got %v, %d", i, x.b, x.bit, l, e)
		}
	}
}

// Bits as a number without end has them: the last byte's lowest one is bit 0.
func TestTurnOfAllBits(t *testing.T) {
	for _, n := range []int{1, 2, 3, 9} {
		b := filled(n)
		for bit := range 8 * n {
			at := 8*n - 1 - bit
			z := new(big.Int).SetBytes(b)
			want := z.SetBit(z, at, 1-z.Bit(at)).FillBytes(make([]byte, n))
			l, e := Turn(b, bit)
			if !bytes.Equal(l, want) || e != api.OK {
				t.Errorf("Turn(%v, %d): got %v, %d, not %v", b, bit, l, e, want)
			}
			if back, e := Turn(l, bit); !bytes.Equal(back, b) || e != api.OK {
				t.Errorf("Turn(%v, %d) twice: got %v, %d", b, bit, back, e)
			}
		}
		if !bytes.Equal(b, filled(n)) {
			t.Errorf("a text of %d bytes is changed", n)
		}
	}
}

func TestTurnOfALongText(t *testing.T) {
	n := api.MaxBytes + 9
	b := filled(n)
	for _, bit := range []int{0, 8*api.MaxBytes - 1, 8 * api.MaxBytes, 8*n - 1} {
		want := filled(n)
		want[bit/8] ^= 1 << (7 - bit%8)
		if l, e := Turn(b, bit); !bytes.Equal(l, want) || e != api.OK {
			t.Errorf("Turn of bit %d of %d bytes: got %d bytes, %d", bit, n, len(l), e)
		}
	}
	if l, e := Turn(b, 8*n); l != nil || e != api.ErrArg {
		t.Errorf("Turn of bit %d of %d bytes: got %d bytes, %d", 8*n, n, len(l), e)
	}
}

// What is told is new: nothing is written into what was handed in, nor behind
// it, and neither changes with the other.
func TestToldIsNew(t *testing.T) {
	sealed24 := append([]byte("123456789"), 0x21, 0xcf, 0x02)
	sealed32 := append([]byte("123456789"), 0x26, 0x39, 0xf4, 0xcb)
	for _, x := range []struct {
		name string
		call func(b []byte) ([]byte, api.Errno)
		b    []byte
		want []byte
	}{
		{"Turn", func(b []byte) ([]byte, api.Errno) { return Turn(b, 15) }, []byte("123456789"), []byte("133456789")},
		{"Seal24", Seal24, []byte("123456789"), sealed24},
		{"Seal32", Seal32, []byte("123456789"), sealed32},
		{"Open24", Open24, sealed24, []byte("123456789")},
		{"Open32", Open32, sealed32, []byte("123456789")},
	} {
		whole := append(bytes.Clone(x.b), 50, 51, 52, 53, 54, 55)
		was := bytes.Clone(whole)
		got, e := x.call(whole[:len(x.b)])
		if !bytes.Equal(got, x.want) || e != api.OK {
			t.Errorf("%s: got %v, %d", x.name, got, e)
		}
		if !bytes.Equal(whole, was) {
			t.Errorf("%s: what was handed in became %v", x.name, whole)
		}
		for i := range whole {
			whole[i] = 99
		}
		if !bytes.Equal(got, x.want) {
			t.Errorf("%s: the answer shares memory with what was handed in", x.name)
		}
		was = bytes.Clone(whole)
		got = got[:cap(got)]
		for i := range got {
			got[i] = 33
		}
		if !bytes.Equal(whole, was) {
			t.Errorf("%s: what was handed in shares memory with the answer", x.name)
		}
	}
}
