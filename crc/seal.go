package crc

import (
	"bytes"
	"slices"

	"pallet/api"
)

// How many bytes a sum has.
const (
	size24 = 3
	size32 = 4
)

// Seal24 and Seal32 put a sum behind a text, Open24 and Open32 take it off.
func Seal24(b []byte) ([]byte, api.Errno) { return seal(b, tail24) }

func Seal32(b []byte) ([]byte, api.Errno) { return seal(b, tail32) }

func Open24(b []byte) ([]byte, api.Errno) { return open(b, size24, tail24) }

func Open32(b []byte) ([]byte, api.Errno) { return open(b, size32, tail32) }

// tail24 and tail32 are a text's sum as it stands behind it: its bytes in the order
// in which they would fall out of the register, so that turned bits that stand
// beside one another are noticed across the text's end as they are within it.
func tail24(b []byte) []byte {
	s := Sum24(b...)
	return []byte{byte(s >> 16), byte(s >> 8), byte(s)}
}

func tail32(b []byte) []byte {
	s := Sum32(b...)
	return []byte{byte(s), byte(s >> 8), byte(s >> 16), byte(s >> 24)}
}

func seal(b []byte, tail func(b []byte) []byte) ([]byte, api.Errno) {
	if len(b) > api.MaxBytes {
		return nil, api.ErrLong
	}
	return slices.Concat(b, tail(b)), api.OK
}

func open(b []byte, size int, tail func(b []byte) []byte) ([]byte, api.Errno) {
	n := len(b) - size
	if n < 0 {
		return nil, api.ErrShort
	}
	if n > api.MaxBytes {
		return nil, api.ErrLong
	}
	if !bytes.Equal(tail(b[:n]), b[n:]) {
		return nil, api.ErrSum
	}
	return bytes.Clone(b[:n]), api.OK
}
