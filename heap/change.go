package heap

import (
	"slices"

	"pallet/api"
)

// Build makes a heap, Push adds, Pop takes the first, Take one by its number.
func Build(l ...api.Item) ([]api.Item, api.Errno) {
	if len(l) > api.MaxItems {
		return nil, api.ErrFull
	}
	h := slices.Clone(l)
	// The later half has nothing below it.
	for at := len(h)/2 - 1; at >= 0; at-- {
		sink(h, at)
	}
	return h, api.OK
}

func Push(h []api.Item, x api.Item) ([]api.Item, api.Errno) {
	if !Check(h...) {
		return nil, api.ErrArg
	}
	if len(h) == api.MaxItems {
		return nil, api.ErrFull
	}
	l := make([]api.Item, len(h)+1)
	copy(l, h)
	l[len(h)] = x
	rise(l, len(h))
	return l, api.OK
}

func Pop(h []api.Item) (api.Item, []api.Item, api.Errno) {
	if !Check(h...) {
		return api.Item{}, nil, api.ErrArg
	}
	if len(h) == 0 {
		return api.Item{}, nil, api.ErrNone
	}
	return h[0], without(h, 0), api.OK
}

func Take(h []api.Item, seq uint64) (api.Item, []api.Item, api.Errno) {
	if !Check(h...) {
		return api.Item{}, nil, api.ErrArg
	}
	at, is := Find(h, seq)
	if !is {
		return api.Item{}, nil, api.ErrNone
	}
	// Of some with one number, the first that comes may stand behind others.
	for i := at + 1; i < len(h); i++ {
		if h[i].Seq == seq && Less(h[i], h[at]) {
			at = i
		}
	}
	return h[at], without(h, at), api.OK
}

// without is a heap of h's things but the one at a place, in new memory.
func without(h []api.Item, at int) []api.Item {
	last := len(h) - 1
	l := make([]api.Item, last)
	copy(l, h)
	if at == last {
		return l
	}
	l[at] = h[last]
	// The last thing comes of another branch: it may be too high here, or too low.
	sink(l, at)
	rise(l, at)
	return l
}

// rise and sink bring the thing at a place, the only one amiss, to where it may be.
func rise(h []api.Item, at int) {
	for at > 0 && Less(h[at], h[above(at)]) {
		h[at], h[above(at)] = h[above(at)], h[at]
		at = above(at)
	}
}

func sink(h []api.Item, at int) {
	for {
		first := at
		for below := 2*at + 1; below <= 2*at+2 && below < len(h); below++ {
			if Less(h[below], h[first]) {
				first = below
			}
		}
		if first == at {
			return
		}
		h[at], h[first] = h[first], h[at]
		at = first
	}
}
