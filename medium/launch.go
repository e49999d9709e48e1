package medium

import (
	"slices"

	"pallet/api"
)

// Launch adds a thing, Heard hears one.
func Launch(l []api.Air, x api.Air) ([]api.Air, api.Errno) {
	if Check(l...) != api.OK || Check(x) != api.OK {
		return nil, api.ErrArg
	}
	// The Ids rise: what is above the last one is above all.
	if len(l) > 0 && x.Id <= l[len(l)-1].Id {
		return nil, api.ErrArg
	}
	if len(l) == api.MaxAirs {
		return nil, api.ErrFull
	}
	all := make([]api.Air, 0, len(l)+1)
	for _, y := range l {
		y = own(y)
		if Meet(x, y) {
			x.Bad, y.Bad = true, true
		}
		all = append(all, y)
	}
	return append(all, own(x)), api.OK
}

func Heard(l []api.Air, id uint64) ([]api.Air, api.Air, api.Errno) {
	if e := Check(l...); e != api.OK {
		return nil, api.Air{}, e
	}
	at := place(l, id)
	if at < 0 {
		return nil, api.Air{}, api.ErrNone
	}
	left := make([]api.Air, len(l))
	for i, x := range l {
		left[i] = own(x)
	}
	left[at].Left--
	if left[at].Left == 0 {
		left = slices.Delete(left, at, at+1)
	}
	return left, own(l[at]), api.OK
}
