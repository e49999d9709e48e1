package medium

import (
	"pallet/api"
	"pallet/pico"
)

// Delays tells whether delays may be, Arrive when a thing is heard.
func Delays(n int, d ...[]int64) api.Errno {
	if n < 1 || n > api.MaxNodes || len(d) != n {
		return api.ErrArg
	}
	wrong := some(n, func(from int) bool {
		return len(d[from]) != n || some(n, func(to int) bool {
			return !mayBetween(from, to, d[from][to])
		})
	})
	if wrong {
		return api.ErrArg
	}
	return api.OK
}

func Arrive(x api.Air, to int, d ...[]int64) (int64, int64, api.Errno) {
	if Check(x) != api.OK || Delays(len(d), d...) != api.OK {
		return 0, 0, api.ErrArg
	}
	if x.From >= len(d) || to < 0 || to >= len(d) || to == x.From {
		return 0, 0, api.ErrArg
	}
	delay := d[x.From][to]
	at, e := pico.Add(x.At, delay)
	if e != api.OK {
		return 0, 0, e
	}
	end, e := pico.Add(x.End, delay)
	if e != api.OK {
		return 0, 0, e
	}
	return at, end, api.OK
}

// mayBetween tells whether it may take so long from a node to another one, or to itself.
func mayBetween(from, to int, delay int64) bool {
	if from == to {
		return delay == 0
	}
	return delay >= 0 && delay <= api.MaxDelay
}
