package kernel

import (
	"math"

	"pallet/api"
	"pallet/heap"
)

// Post adds what is to come, Cancel takes it away, Peek is what comes first, Step lets it come.
func Post(q api.Queue, at int64, class, what, who int, n uint64) (api.Queue, uint64, api.Errno) {
	if e := refusal(q, at, class); e != api.OK {
		return own(q), 0, e
	}
	token := q.Next
	// What is not refused is pushed without an error.
	q.Heap, _ = heap.Push(q.Heap, api.Item{At: at, Class: class, Seq: token, What: what, Who: who, N: n})
	q.Next = token + 1
	return q, token, api.OK
}

func Cancel(q api.Queue, token uint64) (api.Queue, api.Errno) {
	if e := Check(q); e != api.OK {
		return own(q), e
	}
	_, h, e := heap.Take(q.Heap, token)
	if e != api.OK {
		return own(q), e
	}
	q.Heap = h
	return q, api.OK
}

func Peek(q api.Queue) (api.Item, api.Errno) {
	if e := Check(q); e != api.OK {
		return api.Item{}, e
	}
	if len(q.Heap) == 0 {
		return api.Item{}, api.ErrNone
	}
	return q.Heap[0], api.OK
}

func Step(q api.Queue) (api.Queue, api.Item, api.Errno) {
	x, e := Peek(q)
	if e == api.OK && x.At > q.Horizon {
		e = api.ErrOver
	}
	if e != api.OK {
		return own(q), api.Item{}, e
	}
	// What has a first thing is popped without an error.
	_, q.Heap, _ = heap.Pop(q.Heap)
	q.Now = x.At
	return q, x, api.OK
}

// refusal is why something of that time and class is not posted.
func refusal(q api.Queue, at int64, class int) api.Errno {
	if e := Check(q); e != api.OK {
		return e
	}
	switch {
	case !fits(at, class):
		return api.ErrArg
	case at < q.Now:
		return api.ErrOver
	case len(q.Heap) == api.MaxItems || q.Next == math.MaxUint64:
		// Behind the greatest number the next one would be 0 again.
		return api.ErrFull
	}
	return api.OK
}
