package wire

import (
	"bytes"
	"math"
	"math/big"
	"testing"

	"pallet/api"
)

// filled is a body of n bytes, none of which tells its place by itself.
func filled(n int) []byte {
	b := make([]byte, n)
	for i := range b {
		b[i] = byte(i*i + i>>8)
	}
	return b
}

// recordBytes are what a record's bytes must be.
func recordBytes(kind byte, body []byte) []byte {
	return join([]byte{kind}, varyBytes(big.NewInt(int64(len(body)))), body)
}

// sizes are how many bytes a body has: about where its length has a byte more,
// and at the greatest.
var sizes = []int{0, 1, 2, 126, 127, 128, 129, 300, 1<<14 - 1, 1 << 14, api.MaxBytes - 1, api.MaxBytes}

// P2.3

func TestRecordByHand(t *testing.T) {
	for i, x := range []struct {
		b    []byte
		kind byte
		body []byte
		want []byte
	}{
		{nil, 0, nil, []byte{0, 0}},
		{nil, 255, []byte{}, []byte{255, 0}},
		{[]byte{9}, 5, []byte{1, 2, 3}, []byte{9, 5, 3, 1, 2, 3}},
		{[]byte{5, 1}, 128, []byte{128}, []byte{5, 1, 128, 1, 128}},
		{nil, 7, filled(128), join([]byte{7, 129, 0}, filled(128))},
	} {
		if l, e := Record(x.b, x.kind, x.body); !bytes.Equal(l, x.want) || e != api.OK {
			t.Errorf("%d: Record(%v, %d, %v): got %v, %d", i, x.b, x.kind, x.body, l, e)
		}
	}
}

func TestRecordIsWrittenAndRead(t *testing.T) {
	for _, size := range sizes {
		body := filled(size)
		for _, kind := range []byte{0, 1, 127, 128, 255} {
			want := recordBytes(kind, body)
			for i, a := range ahead {
				l, e := Record(a, kind, body)
				if !bytes.Equal(l, join(a, want)) || e != api.OK {
					t.Fatalf("Record(%v, %d, of %d bytes): got %d bytes, %d", a, kind, size, len(l), e)
				}
				z := behind[i]
				k, c, at, e := TakeRecord(join(l, z), len(a))
				if k != kind || !bytes.Equal(c, body) || at != len(l) || e != api.OK {
					t.Fatalf("TakeRecord of %d bytes behind %v, ahead of %v: got %d, %d bytes, %d, %d", size, a, z, k, len(c), at, e)
				}
			}
		}
		if !bytes.Equal(body, filled(size)) {
			t.Errorf("a body of %d bytes is changed", size)
		}
	}
}

func TestRecordIsTooLong(t *testing.T) {
	for _, n := range []int{api.MaxBytes + 1, 2 * api.MaxBytes} {
		if l, e := Record([]byte{9}, 1, make([]byte, n)); l != nil || e != api.ErrLong {
			t.Errorf("Record of %d bytes: got %d bytes, %d", n, len(l), e)
		}
		// The bytes that it tells are there, but they are too many.
		b := join([]byte{1}, varyBytes(big.NewInt(int64(n))), make([]byte, n))
		if k, c, at, e := TakeRecord(b, 0); k != 0 || c != nil || at != 0 || e != api.ErrLong {
			t.Errorf("TakeRecord of %d bytes: got %d, %d bytes, %d, %d", n, k, len(c), at, e)
		}
		if l, e := Records(b, 0); l != nil || e != api.ErrLong {
			t.Errorf("Records of %d bytes: got %d, %d", n, len(l), e)
		}
	}
}

// wrongRecords are texts and places at which there is no record.
var wrongRecords = []struct {
	b  []byte
	at int
	e  api.Errno
}{
	{nil, -1, api.ErrArg},
	{[]byte{5, 0}, -1, api.ErrArg},
	{[]byte{5, 0}, math.MinInt, api.ErrArg},
	{[]byte{5}, 0, api.ErrShort},
	{[]byte{5, 129}, 0, api.ErrShort},
	{[]byte{5, 1}, 0, api.ErrShort},
	{[]byte{5, 2, 1}, 0, api.ErrShort},
	{[]byte{5, 0, 5, 2, 1}, 2, api.ErrShort},
	{[]byte{5, 128}, 0, api.ErrForm},
	{[]byte{5, 128, 0}, 0, api.ErrForm},
	{[]byte{5, 128, 1, 7}, 0, api.ErrForm},
	{[]byte{5, 130, 128, 128, 128, 128, 128, 128, 128, 128, 0}, 0, api.ErrForm},
	{[]byte{5, 129, 128, 128, 128, 128, 128, 128, 128, 128, 128, 0}, 0, api.ErrForm},
	// One more than MaxBytes is too long, whether or not there are so many;
	// MaxBytes are only too many for what is there.
	{[]byte{5, 192, 128, 1}, 0, api.ErrLong},
	{[]byte{5, 192, 128, 1, 0}, 0, api.ErrLong},
	{[]byte{5, 192, 128, 0}, 0, api.ErrShort},
	{[]byte{5, 192, 128, 0, 1}, 0, api.ErrShort},
	{[]byte{5, 192, 128}, 0, api.ErrShort},
	// As ints these lengths are the smallest, -1, and the greatest.
	{[]byte{5, 129, 128, 128, 128, 128, 128, 128, 128, 128, 0, 9}, 0, api.ErrLong},
	{[]byte{5, 129, 255, 255, 255, 255, 255, 255, 255, 255, 127, 9}, 0, api.ErrLong},
	{[]byte{5, 255, 255, 255, 255, 255, 255, 255, 255, 127, 9}, 0, api.ErrLong},
}

func TestTakeRecordIsWrong(t *testing.T) {
	for i, x := range wrongRecords {
		if k, c, at, e := TakeRecord(x.b, x.at); k != 0 || c != nil || at != 0 || e != x.e {
			t.Errorf("%d: TakeRecord(%v, %d): got %d, %v, %d, %d, not %d", i, x.b, x.at, k, c, at, e, x.e)
		}
		if l, e := Records(x.b, x.at); l != nil || e != x.e {
			t.Errorf("%d: Records(%v, %d): got %v, %d, not %d", i, x.b, x.at, l, e, x.e)
		}
	}
	for i, x := range []struct {
		b  []byte
		at int
	}{{nil, 0}, {nil, 1}, {[]byte{5, 0}, 2}, {[]byte{5, 0}, 3}, {nil, math.MaxInt}, {[]byte{5, 0}, math.MaxInt}} {
		if k, c, at, e := TakeRecord(x.b, x.at); k != 0 || c != nil || at != 0 || e != api.ErrShort {
			t.Errorf("%d: TakeRecord(%v, %d): got %d, %v, %d, %d", i, x.b, x.at, k, c, at, e)
		}
		// At the end and beyond it no record is left, so that none has an error.
		if l, e := Records(x.b, x.at); len(l) != 0 || e != api.OK {
			t.Errorf("%d: Records(%v, %d): got %v, %d", i, x.b, x.at, l, e)
		}
	}
}

func TestRecordEndsTooSoonAnywhere(t *testing.T) {
	for _, size := range []int{0, 1, 127, 128, 300} {
		b := join([]byte{9}, recordBytes(1, filled(size)))
		for end := range len(b) {
			if k, c, at, e := TakeRecord(b[:end], 1); k != 0 || c != nil || at != 0 || e != api.ErrShort {
				t.Errorf("TakeRecord of %d of %d bytes: got %d, %v, %d, %d", end, len(b), k, c, at, e)
			}
			if l, e := Records(b[:end], 1); end > 1 && (l != nil || e != api.ErrShort) {
				t.Errorf("Records of %d of %d bytes: got %v, %d", end, len(b), l, e)
			}
		}
	}
}

func TestRecords(t *testing.T) {
	var want [][]byte
	for i, size := range sizes {
		want = append(want, recordBytes(byte(37*i), filled(size)))
	}
	all := join(want...)
	for _, a := range ahead {
		b, at := join(a, all), len(a)
		for i := 0; i <= len(want); i++ {
			got, e := Records(b, at)
			if e != api.OK || len(got) != len(want)-i {
				t.Fatalf("from record %d on: got %d, %d", i, len(got), e)
			}
			for j, r := range got {
				if !bytes.Equal(r, want[i+j]) {
					t.Errorf("from record %d on: record %d is another one", i, i+j)
				}
			}
			if i < len(want) {
				at += len(want[i])
			}
		}
	}
}

// Of several errors the first record's is told; with it there are no records.
func TestRecordsTellTheFirstError(t *testing.T) {
	fine := []byte{5, 0, 6, 1, 9}
	for i, x := range []struct {
		b []byte
		e api.Errno
	}{
		{[]byte{5}, api.ErrShort},
		{[]byte{5, 2, 1}, api.ErrShort},
		{[]byte{5, 128, 0, 5}, api.ErrForm},
		{[]byte{5, 192, 128, 1, 5, 128}, api.ErrLong},
		{[]byte{5, 9, 5, 128, 0}, api.ErrShort},
	} {
		if l, e := Records(join(fine, x.b), 0); l != nil || e != x.e {
			t.Errorf("%d: got %v, %d, not %d", i, l, e, x.e)
		}
	}
}

// What is told is new: bodies and records share nothing with the text, nor with
// each other.
func TestReadRecordsAreNew(t *testing.T) {
	b := []byte{5, 2, 1, 2, 6, 1, 9}
	was := bytes.Clone(b)
	_, body, _, _ := TakeRecord(b, 0)
	all, _ := Records(b, 0)
	for _, l := range append([][]byte{body}, all...) {
		l = l[:cap(l)]
		for i := range l {
			l[i] = 77
		}
	}
	if !bytes.Equal(b, was) {
		t.Errorf("what was handed in became %v", b)
	}
	_, body, _, _ = TakeRecord(b, 0)
	all, _ = Records(b, 0)
	for i := range b {
		b[i] = 88
	}
	if !bytes.Equal(body, was[2:4]) || !bytes.Equal(all[0], was[:4]) || !bytes.Equal(all[1], was[4:]) {
		t.Errorf("the answers became %v, %v", body, all)
	}
	_ = append(all[0], 66)
	if !bytes.Equal(all[1], was[4:]) {
		t.Errorf("a record became %v", all[1])
	}
}

// A body may be a piece of what the record is written behind.
func TestRecordOfItsOwnText(t *testing.T) {
	b := []byte{1, 2, 3, 4, 5}
	if l, e := Record(b[:2], 9, b[1:]); !bytes.Equal(l, []byte{1, 2, 9, 4, 2, 3, 4, 5}) || e != api.OK {
		t.Errorf("got %v, %d", l, e)
	}
	if !bytes.Equal(b, []byte{1, 2, 3, 4, 5}) {
		t.Errorf("what was handed in became %v", b)
	}
}

// P2.4, of records: what is read is written as it stood there.

func TestReadRecordsAreWrittenSo(t *testing.T) {
	read := 0
	short(6, []byte{0, 1, 2, 127, 128, 129}, func(b []byte) {
		all, e := Records(b, 0)
		if e == api.OK {
			read += len(all)
			if !bytes.Equal(join(all...), b) {
				t.Errorf("%v is read as %v", b, all)
			}
		}
		at := 0
		var again []byte
		for at < len(b) {
			k, c, next, f := TakeRecord(b, at)
			if f != api.OK {
				break
			}
			again, _ = Record(again, k, c)
			at = next
		}
		if !bytes.Equal(again, b[:at]) {
			t.Errorf("%v is read to %d, and written %v", b, at, again)
		}
		if (at == len(b)) != (e == api.OK) {
			t.Errorf("%v: its records one by one end at %d, all of them with %d", b, at, e)
		}
	})
	if read == 0 {
		t.Error("nothing was read")
	}
}
