package frame

import (
	"bytes"
	"math"
	"slices"
	"testing"

	"pallet/api"
	"pallet/crc"
	"pallet/drawn"
)

// The chapter's numbers, written out: a limit that is mistaken elsewhere is noticed here.
const (
	maxNodes = 16
	maxSlots = 4294967296
	maxBytes = 1048576
)

// may tells whether a frame may be, by the chapter's own words.
func may(f api.Frame) bool {
	return (f.Kind == 1 || f.Kind == 2) && 0 <= f.From && f.From <= maxNodes-1 && f.Slot <= maxSlots
}

// groups are a number's bits in groups of seven, as few as can be, the highest first.
func groups(n uint64) []byte {
	l := []byte{byte(n % 128)}
	for n /= 128; n > 0; n /= 128 {
		l = append(l, byte(128+n%128))
	}
	slices.Reverse(l)
	return l
}

// bare is what a frame's text is, ahead of its sum, by the chapter's own words.
func bare(f api.Frame) []byte {
	l := append([]byte{161, byte(f.Kind), byte(f.From)}, groups(f.Slot)...)
	return append(l, byte(f.Members/256), byte(f.Members%256))
}

func sealed(t *testing.T, b []byte) []byte {
	t.Helper()
	l, e := crc.Seal24(b)
	if e != api.OK {
		t.Fatalf("Seal24 of %d bytes: got %d", len(b), e)
	}
	return l
}

// told is the frame that a text is, ahead of its sum, looked at from both of its ends:
// what stands between From and Members must be one number, of as many bytes as there are.
func told(b []byte) (api.Frame, bool) {
	if len(b) < 6 || b[0] != 161 || b[1] != 1 && b[1] != 2 || b[2] > 15 {
		return api.Frame{}, false
	}
	slot, members := b[3:len(b)-2], b[len(b)-2:]
	n := uint64(0)
	for i, x := range slot {
		last := i == len(slot)-1
		if last != (x < 128) || i == 0 && x == 128 || i == 5 {
			return api.Frame{}, false
		}
		n = 128*n + uint64(x%128)
	}
	if n > maxSlots {
		return api.Frame{}, false
	}
	return api.Frame{Kind: int(b[1]), From: int(b[2]), Slot: n, Members: 256*uint16(members[0]) + uint16(members[1])}, true
}

// slots are numbers of slots at the edges: where their texts have a byte more, and
// around the greatest, those above it among them.
func slots() []uint64 {
	l := []uint64{2, 3, 16, 100, 300, 1 << 63, math.MaxUint64}
	for _, n := range []uint64{1, 1 << 7, 1 << 8, 1 << 14, 1 << 16, 1 << 21, 1 << 28, 1 << 31, maxSlots, 1 << 33, 1 << 35, 1 << 56} {
		l = append(l, n-1, n, n+1)
	}
	slices.Sort(l)
	return slices.Compact(l)
}

// frames are those that may be, at the edges, with members of all kinds.
func frames() []api.Frame {
	var l []api.Frame
	for kind := 1; kind <= 2; kind++ {
		for from := range maxNodes {
			for _, slot := range slots() {
				for _, m := range []uint16{0, 1, 9, 127, 128, 129, 255, 256, 32768, 32769, 41377, 65280, 65535} {
					if slot <= maxSlots {
						l = append(l, api.Frame{Kind: kind, From: from, Slot: slot, Members: m})
					}
				}
			}
		}
	}
	return l
}

// few are frames of all lengths that a text has.
func few() []api.Frame {
	return []api.Frame{
		{Kind: 1},
		{Kind: 2, From: 15, Slot: 127, Members: 65535},
		{Kind: 1, From: 3, Slot: 300, Members: 9},
		{Kind: 2, From: 7, Slot: 16384, Members: 32769},
		{Kind: 1, From: 8, Slot: 268435455, Members: 43690},
		{Kind: 2, From: 1, Slot: maxSlots, Members: 41377},
	}
}

// drawnFrame is a frame that may be, of five drawn numbers; of slots of few bits there are as many as of many.
func drawnFrame(l []uint64) api.Frame {
	return api.Frame{
		Kind:    1 + int(l[0]%2),
		From:    int(l[1] % maxNodes),
		Slot:    l[2] % (uint64(1)<<(l[3]%33) + 1),
		Members: uint16(l[4]),
	}
}

// P8.1

func TestCheckByHand(t *testing.T) {
	for i, x := range []struct {
		f api.Frame
		e api.Errno
	}{
		{api.Frame{Kind: 1}, api.OK},
		{api.Frame{Kind: 2}, api.OK},
		{api.Frame{Kind: 1, From: 15, Slot: 4294967296, Members: 65535}, api.OK},
		{api.Frame{Kind: 2, From: 15, Slot: 4294967296, Members: 0}, api.OK},
		// A sender need not be a member.
		{api.Frame{Kind: 1, From: 2, Slot: 6, Members: 1}, api.OK},
		{api.Frame{}, api.ErrArg},
		{api.Frame{Kind: 3}, api.ErrArg},
		{api.Frame{Kind: -1}, api.ErrArg},
		{api.Frame{Kind: 257}, api.ErrArg},
		{api.Frame{Kind: 1, From: 16}, api.ErrArg},
		{api.Frame{Kind: 1, From: -1}, api.ErrArg},
		{api.Frame{Kind: 1, From: 256}, api.ErrArg},
		{api.Frame{Kind: 1, Slot: 4294967297}, api.ErrArg},
		{api.Frame{Kind: 2, Slot: math.MaxUint64}, api.ErrArg},
		{api.Frame{Kind: 1, Slot: 1 << 63}, api.ErrArg},
	} {
		if e := Check(x.f); e != x.e {
			t.Errorf("%d: Check(%v) is %d", i, x.f, e)
		}
	}
}

// compareWrite holds Check and Write against the chapter's own words.
func compareWrite(t *testing.T, f api.Frame) {
	t.Helper()
	e := Check(f)
	b, g := Write(f)
	if !may(f) {
		if e != api.ErrArg || b != nil || g != api.ErrArg {
			t.Errorf("%v: got %d, %v, %d", f, e, b, g)
		}
		return
	}
	if e != api.OK || g != api.OK || !bytes.Equal(b, sealed(t, bare(f))) {
		t.Errorf("%v: got %d, %v, %d", f, e, b, g)
	}
}

func TestFramesAtTheEdges(t *testing.T) {
	kinds := []int{-1, 0, 1, 2, 3, 4, -2, 255, 256, 257, 258, 1<<32 + 1, math.MaxInt, math.MinInt, math.MinInt + 1}
	for _, kind := range kinds {
		for _, from := range append([]int{0, 1, 7, 14, 15}, strangers...) {
			for _, slot := range slots() {
				compareWrite(t, api.Frame{Kind: kind, From: from, Slot: slot, Members: 41377})
			}
		}
	}
}

// P8.2

func TestWriteByHand(t *testing.T) {
	for i, x := range []struct {
		f api.Frame
		b []byte
	}{
		// The chapter's example.
		{api.Frame{Kind: 1, From: 3, Slot: 300, Members: 9}, []byte{161, 1, 3, 130, 44, 0, 9}},
		{api.Frame{Kind: 1}, []byte{161, 1, 0, 0, 0, 0}},
		{api.Frame{Kind: 2, From: 15, Slot: 127, Members: 0x8001}, []byte{161, 2, 15, 127, 128, 1}},
		{api.Frame{Kind: 2, From: 1, Slot: 128, Members: 0x0102}, []byte{161, 2, 1, 129, 0, 1, 2}},
		{api.Frame{Kind: 1, From: 10, Slot: 16384, Members: 65535}, []byte{161, 1, 10, 129, 128, 0, 255, 255}},
		{api.Frame{Kind: 1, From: 8, Slot: 4294967295, Members: 256}, []byte{161, 1, 8, 143, 255, 255, 255, 127, 1, 0}},
		{api.Frame{Kind: 2, From: 0, Slot: 4294967296, Members: 255}, []byte{161, 2, 0, 144, 128, 128, 128, 0, 0, 255}},
	} {
		b, e := Write(x.f)
		if !bytes.Equal(b, sealed(t, x.b)) || e != api.OK {
			t.Errorf("%d: Write(%v): got %v, %d", i, x.f, b, e)
		}
		if f, e := Read(sealed(t, x.b)); f != x.f || e != api.OK {
			t.Errorf("%d: Read(%v): got %v, %d", i, b, f, e)
		}
	}
}

// Whole texts, with sums that were worked out apart from the program: the highest byte first.
func TestWholeTexts(t *testing.T) {
	for i, x := range []struct {
		f api.Frame
		b []byte
	}{
		{api.Frame{Kind: 1, From: 3, Slot: 300, Members: 9}, []byte{161, 1, 3, 130, 44, 0, 9, 92, 171, 63}},
		{api.Frame{Kind: 1}, []byte{161, 1, 0, 0, 0, 0, 190, 124, 128}},
		{api.Frame{Kind: 2, Slot: 4294967296, Members: 65535}, []byte{161, 2, 0, 144, 128, 128, 128, 0, 255, 255, 9, 91, 216}},
	} {
		if b, e := Write(x.f); !bytes.Equal(b, x.b) || e != api.OK {
			t.Errorf("%d: Write(%v): got %v, %d", i, x.f, b, e)
		}
		if f, e := Read(x.b); f != x.f || e != api.OK {
			t.Errorf("%d: Read(%v): got %v, %d", i, x.b, f, e)
		}
	}
}

// compareRead holds Read of a text, sealed, against the same text looked at from both ends.
func compareRead(t *testing.T, b []byte) {
	t.Helper()
	want, is := told(b)
	e := api.OK
	if !is {
		e = api.ErrForm
	}
	if f, g := Read(sealed(t, b)); f != want || g != e {
		t.Errorf("Read of %v, sealed: got %v, %d, not %v, %d", b, f, g, want, e)
	}
}

func TestReadNoFrame(t *testing.T) {
	for i, b := range [][]byte{
		nil,
		{161}, {161, 1}, {161, 1, 0}, {161, 1, 0, 0}, {161, 1, 0, 0, 0},
		// Another mark.
		{160, 1, 0, 0, 0, 0}, {162, 1, 0, 0, 0, 0}, {0, 1, 0, 0, 0, 0}, {33, 1, 0, 0, 0, 0},
		// Another kind, or node.
		{161, 0, 0, 0, 0, 0}, {161, 3, 0, 0, 0, 0}, {161, 129, 0, 0, 0, 0}, {161, 255, 0, 0, 0, 0},
		{161, 1, 16, 0, 0, 0}, {161, 1, 128, 0, 0, 0}, {161, 1, 255, 0, 0, 0},
		// A slot that is longer than need be, too great, has too many bits, or no end.
		{161, 1, 0, 128, 0, 0, 0}, {161, 1, 0, 128, 128, 5, 0, 0},
		{161, 1, 0, 144, 128, 128, 128, 1, 0, 0},
		{161, 1, 0, 129, 255, 255, 255, 255, 255, 255, 255, 255, 127, 0, 0},
		{161, 1, 0, 130, 128, 128, 128, 128, 128, 128, 128, 128, 0, 0, 0},
		{161, 1, 0, 130, 128, 128, 128, 128, 128, 128, 128, 128, 129, 0, 0},
		{161, 1, 0, 130, 130, 130}, {161, 1, 0, 129, 130, 131, 132},
		// Too few members, or something behind them.
		{161, 1, 0, 130, 44, 0}, {161, 1, 0, 130, 44}, {161, 1, 0, 130},
		{161, 1, 0, 0, 0, 0, 0}, {161, 1, 0, 0, 0, 9, 161}, {161, 1, 3, 130, 44, 0, 9, 0, 0, 0},
		// A frame's text behind another one, and one that is sealed twice.
		{161, 1, 0, 0, 0, 0, 161, 1, 0, 0, 0, 0},
		sealed(t, []byte{161, 1, 0, 0, 0, 0}),
		// What would be right, were the first number that is not there passed over.
		{161, 161, 1, 0, 0, 0, 0}, {1, 0, 0, 0, 0, 161},
	} {
		if f, e := Read(sealed(t, b)); f != (api.Frame{}) || e != api.ErrForm {
			t.Errorf("%d: Read of %v, sealed: got %v, %d", i, b, f, e)
		}
	}
}

func TestReadWhatDoesNotOpen(t *testing.T) {
	whole := sealed(t, []byte{161, 1, 3, 130, 44, 0, 9})
	long := sealed(t, make([]byte, maxBytes))
	for i, x := range []struct {
		b []byte
		e api.Errno
	}{
		{nil, api.ErrShort},
		{[]byte{}, api.ErrShort},
		{[]byte{161}, api.ErrShort},
		{[]byte{161, 1}, api.ErrShort},
		{[]byte{161, 1, 0}, api.ErrSum},
		{[]byte{161, 1, 3, 130, 44, 0, 9}, api.ErrSum},
		{whole[:len(whole)-1], api.ErrSum},
		{whole[1:], api.ErrSum},
		{slices.Concat(whole, []byte{1}), api.ErrSum},
		{slices.Concat([]byte{0}, whole), api.ErrSum},
		// With a 0 behind it a sealed text is sealed again, but what it has then is no frame's.
		{slices.Concat(whole, []byte{0}), api.ErrForm},
		{slices.Concat(whole, []byte{0, 0, 0}), api.ErrForm},
		// What is no frame's text, nor sealed: its sum is asked for first.
		{[]byte{160, 0, 99, 128, 0, 0, 9, 1, 2, 3}, api.ErrSum},
		// The longest text that opens, and longer ones.
		{long, api.ErrForm},
		{slices.Concat(long[:maxBytes], []byte{1, 2, 3}), api.ErrSum},
		{append(slices.Clone(long), 0), api.ErrLong},
		{slices.Concat(whole, long), api.ErrLong},
	} {
		if f, e := Read(x.b); f != (api.Frame{}) || e != x.e {
			t.Errorf("%d: Read of %d bytes: got %v, %d", i, len(x.b), f, e)
		}
	}
}

// Texts of all parts that may be, and that may not, one behind the other.
func TestReadOfAllParts(t *testing.T) {
	marks := [][]byte{{161}, {160}, {}, {161, 161}}
	kinds := [][]byte{{0}, {1}, {2}, {3}, {128}, {}}
	froms := [][]byte{{0}, {15}, {16}, {129}, {255}, {}}
	counts := [][]byte{{}, {0}, {127}, {128}, {128, 1}, {129}, {129, 0}, {255, 127}, {129, 128, 128, 0},
		{143, 255, 255, 255, 127}, {144, 128, 128, 128, 0}, {144, 128, 128, 128, 1}, {145, 128, 128, 128, 0},
		{255, 255, 255, 255, 127}, {128, 144, 128, 128, 128, 0}, {129, 128, 128, 128, 128, 0},
		{129, 255, 255, 255, 255, 255, 255, 255, 255, 127}, {130, 128, 128, 128, 128, 128, 128, 128, 128, 0}}
	members := [][]byte{{}, {0}, {0, 0}, {1, 2}, {255, 255}, {128, 1}, {0, 0, 0}, {129, 1, 128}, {0, 0, 0, 0}}
	for _, mark := range marks {
		for _, kind := range kinds {
			for _, from := range froms {
				for _, slot := range counts {
					for _, m := range members {
						compareRead(t, slices.Concat(mark, kind, from, slot, m))
					}
				}
			}
		}
	}
}

// Texts of six bytes that differ from a frame's in two of them, and all kinds and nodes.
func TestReadOfNearTexts(t *testing.T) {
	edges := []byte{0, 1, 2, 3, 15, 16, 17, 127, 128, 129, 144, 160, 161, 162, 254, 255}
	for i := range 6 {
		for k := range i {
			for _, x := range edges {
				for _, y := range edges {
					b := []byte{161, 1, 0, 0, 0, 0}
					b[i], b[k] = x, y
					compareRead(t, b)
				}
			}
		}
	}
	for kind := range 256 {
		for from := range 256 {
			compareRead(t, []byte{161, byte(kind), byte(from), 130, 44, 0, 9})
		}
	}
}

// Frames' texts with a byte set, taken out, or put in, anywhere, or cut.
func TestReadOfChangedTexts(t *testing.T) {
	for _, f := range few() {
		b := bare(f)
		for i := range b {
			compareRead(t, b[:i])
			compareRead(t, b[i:])
			compareRead(t, slices.Delete(slices.Clone(b), i, i+1))
			for x := range 256 {
				compareRead(t, slices.Concat(b[:i], []byte{byte(x)}, b[i+1:]))
				compareRead(t, slices.Concat(b[:i], []byte{byte(x)}, b[i:]))
			}
		}
		for x := range 256 {
			compareRead(t, slices.Concat(b, []byte{byte(x)}))
		}
	}
}

func TestReadOfDrawn(t *testing.T) {
	edges := []byte{161, 161, 1, 2, 0, 15, 16, 127, 128, 129, 130, 144, 143, 255, 3, 44}
	for l := drawn.Numbers(20*5000, 7); len(l) > 0; l = l[20:] {
		b := []byte{161, byte(1 + l[0]%2), byte(l[1] % 16)}
		for i := range l[2] % 12 {
			b = append(b, edges[l[3+i]>>20%16])
		}
		compareRead(t, b)
	}
}

// P8.3

func compareBack(t *testing.T, f api.Frame) {
	t.Helper()
	b, e := Write(f)
	if e != api.OK {
		t.Errorf("Write(%v): got %v, %d", f, b, e)
		return
	}
	back, e := Read(b)
	if back != f || e != api.OK {
		t.Errorf("%v, written and read: got %v, %d", f, back, e)
	}
}

func TestWrittenIsRead(t *testing.T) {
	for _, f := range frames() {
		compareBack(t, f)
	}
	for m := range 65536 {
		compareBack(t, api.Frame{Kind: 1 + m%2, From: m % 15, Slot: uint64(m), Members: uint16(m)})
	}
	for l := drawn.Numbers(5*20000, 7); len(l) > 0; l = l[5:] {
		compareWrite(t, drawnFrame(l))
		compareBack(t, drawnFrame(l))
	}
}

// What is read is written as it stood there: a frame has one text alone.
func TestReadIsWritten(t *testing.T) {
	many := 0
	for l := drawn.Numbers(20*5000, 7); len(l) > 0; l = l[20:] {
		b := []byte{161, byte(l[0] % 4), byte(l[1] % 18)}
		for i := range 3 + l[2]%5 {
			b = append(b, byte(l[3+i]>>20))
		}
		s := sealed(t, b)
		f, e := Read(s)
		if e != api.OK {
			continue
		}
		many++
		if back, e := Write(f); !bytes.Equal(back, s) || e != api.OK {
			t.Errorf("%v, read and written: got %v, %d", s, back, e)
		}
	}
	if many < 100 {
		t.Errorf("only %d texts are read", many)
	}
}

// patterns are ways to turn bits of 24 that stand beside one another, the first one
// always turned: the first few in all ways, all pairs and threes, every other one, all,
// those of the sum itself, and some that look mixed.
func patterns() []uint32 {
	l := []uint32{1<<24 - 1, 0xaaaaaa, 0x864cfb, 0x864cfb<<1&(1<<24-1) | 1<<23, 0xb704ce, 0xc3267d}
	for p := range uint32(512) {
		l = append(l, 1<<23|p<<14, 1<<23|p)
	}
	for i := range 23 {
		for k := range i + 1 {
			l = append(l, 1<<23|1<<i|1<<k)
		}
	}
	for _, x := range drawn.Numbers(500, 7) {
		l = append(l, 1<<23|uint32(x>>20)&(1<<23-1))
	}
	return l
}

// turned is b with a pattern's bits turned from a bit on (each byte's highest first), as far as b goes.
func turned(b []byte, from int, pattern uint32) []byte {
	l := slices.Clone(b)
	for i := range 24 {
		if bit := from + i; pattern>>(23-i)&1 == 1 && bit < 8*len(l) {
			l[bit/8] ^= 128 >> (bit % 8)
		}
	}
	return l
}

func TestTurnedIsNone(t *testing.T) {
	for _, f := range few() {
		b, _ := Write(f)
		for from := range 8 * len(b) {
			for _, p := range patterns() {
				if g, e := Read(turned(b, from, p)); g != (api.Frame{}) || e != api.ErrSum {
					t.Fatalf("%v, from bit %d on turned by %x: got %v, %d", b, from, p, g, e)
				}
			}
		}
	}
}

// R2

func TestNothingIsShared(t *testing.T) {
	for _, f := range few() {
		b, _ := Write(f)
		want := slices.Clone(b)
		other, _ := Write(f)
		clear(other[:cap(other)])
		if !bytes.Equal(b, want) {
			t.Errorf("Write(%v) answers what it answered before", f)
		}
		// There is room behind the text, and something in it.
		room := slices.Concat(want, []byte{7, 7, 7, 7, 7, 7})
		if g, e := Read(room[:len(want)]); g != f || e != api.OK {
			t.Errorf("Read(%v): got %v, %d", want, g, e)
		}
		if !bytes.Equal(room, slices.Concat(want, []byte{7, 7, 7, 7, 7, 7})) {
			t.Errorf("Read changes %v to %v", want, room)
		}
	}
}
