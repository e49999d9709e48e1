package crc

import (
	"bytes"
	"math/bits"
	"slices"
	"testing"

	"pallet/api"
)

// seals are both ways to seal: how many bytes a sum has, what its bytes must be,
// and how many bits beside one another are noticed.
var seals = []struct {
	name  string
	seal  func(b []byte) ([]byte, api.Errno)
	open  func(b []byte) ([]byte, api.Errno)
	size  int
	tail  func(b []byte) []byte
	burst int
}{
	{"24", Seal24, Open24, 3, func(b []byte) []byte {
		s := register24(b)
		return []byte{byte(s >> 16), byte(s >> 8), byte(s)}
	}, 24},
	{"32", Seal32, Open32, 4, func(b []byte) []byte {
		s := register32(b)
		return []byte{byte(s), byte(s >> 8), byte(s >> 16), byte(s >> 24)}
	}, 25},
}

// P3.2

func TestSealByHand(t *testing.T) {
	for i, x := range []struct {
		f    func(b []byte) ([]byte, api.Errno)
		b    []byte
		want []byte
	}{
		{Seal24, nil, []byte{0xb7, 0x04, 0xce}},
		{Seal24, []byte{}, []byte{0xb7, 0x04, 0xce}},
		{Seal24, []byte("123456789"), append([]byte("123456789"), 0x21, 0xcf, 0x02)},
		{Seal32, nil, []byte{0, 0, 0, 0}},
		{Seal32, []byte{}, []byte{0, 0, 0, 0}},
		{Seal32, []byte("123456789"), append([]byte("123456789"), 0x26, 0x39, 0xf4, 0xcb)},
		{Seal32, []byte("a"), []byte{'a', 0x43, 0xbe, 0xb7, 0xe8}},
	} {
		if l, e := x.f(x.b); !bytes.Equal(l, x.want) || e != api.OK {
			t.Errorf("%d: of %v: got %v, %d", i, x.b, l, e)
		}
	}
}

func TestOpenByHand(t *testing.T) {
	for i, x := range []struct {
		f    func(b []byte) ([]byte, api.Errno)
		b    []byte
		want []byte
		e    api.Errno
	}{
		{Open24, nil, nil, api.ErrShort},
		{Open24, []byte{0xb7}, nil, api.ErrShort},
		{Open24, []byte{0xb7, 0x04}, nil, api.ErrShort},
		{Open24, []byte{0xb7, 0x04, 0xce}, nil, api.OK},
		{Open24, []byte{0xce, 0x04, 0xb7}, nil, api.ErrSum},
		{Open24, []byte{0, 0, 0}, nil, api.ErrSum},
		{Open24, []byte{0xb7, 0x04, 0xce, 0, 0, 0}, []byte{0xb7, 0x04, 0xce}, api.OK},
		{Open24, append([]byte("123456789"), 0x21, 0xcf, 0x02), []byte("123456789"), api.OK},
		{Open24, append([]byte("123456789"), 0x02, 0xcf, 0x21), nil, api.ErrSum},
		{Open24, append([]byte("123456788"), 0x21, 0xcf, 0x02), nil, api.ErrSum},
		{Open24, append([]byte("123456789"), 0x21, 0xcf, 0x03), nil, api.ErrSum},
		{Open24, append([]byte("123456789"), 0x21, 0xcf), nil, api.ErrSum},
		{Open32, nil, nil, api.ErrShort},
		{Open32, []byte{0}, nil, api.ErrShort},
		{Open32, []byte{0, 0}, nil, api.ErrShort},
		{Open32, []byte{0, 0, 0}, nil, api.ErrShort},
		{Open32, []byte{0, 0, 0, 0}, nil, api.OK},
		{Open32, []byte{0, 0, 0, 1}, nil, api.ErrSum},
		{Open32, []byte{1, 0, 0, 0}, nil, api.ErrSum},
		{Open32, append([]byte("123456789"), 0x26, 0x39, 0xf4, 0xcb), []byte("123456789"), api.OK},
		{Open32, append([]byte("123456789"), 0xcb, 0xf4, 0x39, 0x26), nil, api.ErrSum},
		{Open32, append([]byte("023456789"), 0x26, 0x39, 0xf4, 0xcb), nil, api.ErrSum},
		{Open32, append([]byte("123456789"), 0x26, 0x39, 0xf4), nil, api.ErrSum},
	} {
		if l, e := x.f(x.b); !bytes.Equal(l, x.want) || e != x.e {
			t.Errorf("%d: of %v: got %v, %d", i, x.b, l, e)
		}
	}
}

func TestSealedIsOpened(t *testing.T) {
	sizes := []int{1 << 14, api.MaxBytes - 1, api.MaxBytes}
	for n := range 70 {
		sizes = append(sizes, n)
	}
	for _, s := range seals {
		for _, n := range sizes {
			b := filled(n)
			l, e := s.seal(b)
			if !bytes.Equal(l, slices.Concat(b, s.tail(b))) || e != api.OK {
				t.Errorf("Seal%s of %d bytes: got %d bytes, %d", s.name, n, len(l), e)
			}
			if o, e := s.open(l); !bytes.Equal(o, b) || e != api.OK {
				t.Errorf("Open%s of %d bytes and a sum: got %d bytes, %d", s.name, n, len(o), e)
			}
			if !bytes.Equal(b, filled(n)) {
				t.Errorf("a text of %d bytes is changed", n)
			}
		}
	}
}

func TestTooLong(t *testing.T) {
	for _, s := range seals {
		for _, n := range []int{api.MaxBytes + 1, api.MaxBytes + 2, 2 * api.MaxBytes} {
			b := filled(n)
			if l, e := s.seal(b); l != nil || e != api.ErrLong {
				t.Errorf("Seal%s of %d bytes: got %d bytes, %d", s.name, n, len(l), e)
			}
			// It is too long, whether or not the sum is its own.
			whole := slices.Concat(b, s.tail(b))
			if l, e := s.open(whole); l != nil || e != api.ErrLong {
				t.Errorf("Open%s of %d bytes and a sum: got %d bytes, %d", s.name, n, len(l), e)
			}
			whole[n/2]++
			if l, e := s.open(whole); l != nil || e != api.ErrLong {
				t.Errorf("Open%s of %d spoilt bytes and a sum: got %d bytes, %d", s.name, n, len(l), e)
			}
		}
		if l, e := s.open(filled(api.MaxBytes + s.size)); l != nil || e != api.ErrSum {
			t.Errorf("Open%s of as many bytes as may be: got %d bytes, %d", s.name, len(l), e)
		}
	}
}

// All sums but the text's own are wrong ones: each of the numbers of a byte in
// each place.
func TestWrongSums(t *testing.T) {
	for _, s := range seals {
		b := []byte("123456789")
		whole, _ := s.seal(b)
		for i := range s.size {
			for x := range 255 {
				l := bytes.Clone(whole)
				l[len(b)+i] += byte(x + 1)
				if o, e := s.open(l); o != nil || e != api.ErrSum {
					t.Errorf("Open%s of %v: got %v, %d", s.name, l, o, e)
				}
			}
		}
	}
}

// P3.3

// turned is b with the bits of a pattern turned from a place on, its highest of
// so many first; by Turn, bit by bit.
func turned(t *testing.T, b []byte, from int, pattern uint64, many int) []byte {
	t.Helper()
	for i := range many {
		if pattern>>(many-1-i)&1 == 1 {
			l, e := Turn(b, from+i)
			if e != api.OK {
				t.Fatalf("Turn(.., %d): got %d", from+i, e)
			}
			b = l
		}
	}
	return b
}

// patterns of many bits, none of them 0: all that turn in the first, the middle or
// the last few only, the ends, all, every other one, those that turn the registers,
// and some that come of a simple rule.
func patterns(many int) []uint64 {
	all := uint64(1)<<many - 1
	var l []uint64
	for p := uint64(1); p < 64; p++ {
		l = append(l, p, p<<(many-6), p<<(many/2-3))
	}
	l = append(l, all, 1<<(many-1)|1, all/3, all/3<<1&all, 0x864cfb, 0x1864cfb&all, 0x1864cfb>>1, 0xedb88320&all, 0xedb88320>>(32-many), bits.Reverse64(0xedb88320)>>32&all)
	x := uint64(1)
	for range 200 {
		x = x*6364136223846793005 + 1442695040888963407
		l = append(l, x>>33&all|1)
	}
	return l
}

func TestTurnedIsNotOpened(t *testing.T) {
	for _, s := range seals {
		for _, n := range []int{0, 1, 9, 20} {
			whole, _ := s.seal(filled(n))
			many := min(s.burst, 8*len(whole))
			for from := 0; from+many <= 8*len(whole); from++ {
				for _, p := range patterns(many) {
					l := turned(t, whole, from, p, many)
					if o, e := s.open(l); o != nil || e != api.ErrSum {
						t.Fatalf("Open%s of %v, from bit %d on turned by %x: got %v, %d", s.name, whole, from, p, o, e)
					}
				}
			}
		}
	}
}

func TestTurnedIsNotOpenedAtTheLongest(t *testing.T) {
	for _, s := range seals {
		whole, _ := s.seal(filled(api.MaxBytes))
		last := 8*len(whole) - s.burst
		for _, from := range []int{0, 1, last / 2, 8*api.MaxBytes - 12, last - 1, last} {
			for _, p := range []uint64{1, 1<<s.burst - 1, 1<<(s.burst-1) | 1} {
				l := turned(t, whole, from, p, s.burst)
				if o, e := s.open(l); o != nil || e != api.ErrSum {
					t.Errorf("Open%s, from bit %d on turned by %x: got %d bytes, %d", s.name, from, p, len(o), e)
				}
			}
		}
	}
}

// differ is by what the sum that stands behind a text is another one than the
// text's own: 0 just where it is opened.
func differ(b []byte, size int, tail func(b []byte) []byte) uint32 {
	n := len(b) - size
	d := uint32(0)
	for i, x := range tail(b[:n]) {
		d = d<<8 | uint32(x^b[n+i])
	}
	return d
}

// add puts d into a list whose numbers have highest bits of their own, and tells
// whether it is not made of them already.
func add(base *[32]uint32, d uint32) bool {
	for d != 0 {
		top := bits.Len32(d) - 1
		if base[top] == 0 {
			base[top] = d
			return true
		}
		d ^= base[top]
	}
	return false
}

// By what sums differ is added up bit by bit. So all the patterns of some bits
// beside one another are noticed just if no bit's difference is made of others'.
func TestAllPatternsAreNoticed(t *testing.T) {
	for _, s := range seals {
		tails := []func(b []byte) []byte{s.tail, func(b []byte) []byte {
			l, _ := s.seal(b)
			return l[len(b):]
		}}
		for _, tail := range tails {
			whole, _ := s.seal(filled(60))
			for from := 0; from+s.burst <= 8*len(whole); from++ {
				var base [32]uint32
				for i := range s.burst {
					l, _ := Turn(whole, from+i)
					if !add(&base, differ(l, s.size, tail)) {
						t.Fatalf("Seal%s: from bit %d on, some turned of %d bits are not noticed", s.name, from, i+1)
					}
				}
			}
		}
	}
}

// One bit more is beyond what is promised: what turns the register, turned in
// the text, is opened; so the bits of a text come highest first.
func TestOneBitMoreIsOpened(t *testing.T) {
	whole, _ := Seal24(filled(9))
	for from := 0; from+25 <= 8*len(whole); from++ {
		l := turned(t, whole, from, 0x1864cfb, 25)
		if o, e := Open24(l); !bytes.Equal(o, l[:9]) || e != api.OK {
			t.Errorf("from bit %d on: got %v, %d", from, o, e)
		}
	}
}
