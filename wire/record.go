package wire

import "pallet/api"

// headRoom is for a kind, and a length up to MaxBytes, that has three bytes.
const headRoom = 4

// Record writes a record, TakeRecord reads one, Records are all.
func Record(b []byte, kind byte, body []byte) ([]byte, api.Errno) {
	if len(body) > api.MaxBytes {
		return nil, api.ErrLong
	}
	l := append(copied(b, headRoom+len(body)), kind)
	l = addVary(l, uint64(len(body)))
	return append(l, body...), api.OK
}

func TakeRecord(b []byte, at int) (byte, []byte, int, api.Errno) {
	body, end, e := bodyAt(b, at)
	if e != api.OK {
		return 0, nil, 0, e
	}
	return b[at], copied(b[body:end], 0), end, api.OK
}

func Records(b []byte, at int) ([][]byte, api.Errno) {
	var l [][]byte
	// A place below 0 is ahead of the end, too, and bodyAt refuses it.
	for at < len(b) {
		_, end, e := bodyAt(b, at)
		if e != api.OK {
			return nil, e
		}
		l = append(l, copied(b[at:end], 0))
		at = end
	}
	return l, api.OK
}

// bodyAt is where the body of the record at a place begins, and ends: a body is
// copied once, by who answers it.
func bodyAt(b []byte, at int) (int, int, api.Errno) {
	if at < 0 {
		return 0, 0, api.ErrArg
	}
	if at >= len(b) {
		return 0, 0, api.ErrShort
	}
	size, body, e := TakeVary(b, at+1)
	if e != api.OK {
		return 0, 0, e
	}
	if size > api.MaxBytes {
		return 0, 0, api.ErrLong
	}
	if uint64(len(b)-body) < size {
		return 0, 0, api.ErrShort
	}
	return body, body + int(size), api.OK
}
