package node

import (
	"bytes"
	"reflect"
	"slices"
	"testing"

	"pallet/api"
	"pallet/frame"
)

// How calls are made, and held against what is told: what is handed in must stay as it is, and what is answered must not hang on it any more.

// sentinel stands where nobody may write.
const sentinel = -77

// equal tells whether two nodes are the same, part by part.
func equal(a, b api.Node) bool {
	for _, n := range []*api.Node{&a, &b} {
		if len(n.Devs) == 0 {
			n.Devs = nil
		}
	}
	return reflect.DeepEqual(a, b)
}

// lent is a node whose list has room behind it, and all of that room.
func lent(n api.Node) (api.Node, []int64) {
	room := append(slices.Clone(n.Devs), sentinel, sentinel, sentinel)
	n.Devs = room[:len(n.Devs)]
	return n, room
}

// call makes a call, and compares what it answers; the answer is told.
func call(t *testing.T, name string, n api.Node, f func(n api.Node) (api.Node, []api.Act, api.Errno), want told) told {
	t.Helper()
	handed, room := lent(n)
	var got told
	got.n, got.acts, got.e = f(handed)
	if !slices.Equal(room, append(slices.Clone(n.Devs), sentinel, sentinel, sentinel)) {
		t.Errorf("%s of %v: what was handed in is %v now", name, n, room)
	}
	for i := range room {
		room[i] = sentinel
	}
	if !equal(got.n, want.n) || !slices.Equal(got.acts, want.acts) || got.e != want.e {
		t.Errorf("%s of %v:\ngot %v,\nnot %v", name, n, got, want)
	}
	return got
}

func wake(t *testing.T, m api.Medl, n api.Node, now int64) told {
	t.Helper()
	return call(t, "Wake", n, func(n api.Node) (api.Node, []api.Act, api.Errno) { return Wake(m, n, now) }, toldWake(m, n, now))
}

func timer(t *testing.T, m api.Medl, n api.Node, now int64) told {
	t.Helper()
	return call(t, "Timer", n, func(n api.Node) (api.Node, []api.Act, api.Errno) { return Timer(m, n, now) }, toldTimer(m, n, now))
}

// hear lets a node hear a frame.
func hear(t *testing.T, m api.Medl, n api.Node, now, began int64, f api.Frame, bad bool) told {
	t.Helper()
	b, e := frame.Write(f)
	if e != api.OK {
		t.Fatalf("Write(%v): got %d", f, e)
	}
	return hearText(t, m, n, now, began, b, &f, bad)
}

// hearText lets a node hear a text, which is that of f, or of no frame.
func hearText(t *testing.T, m api.Medl, n api.Node, now, began int64, b []byte, f *api.Frame, bad bool) told {
	t.Helper()
	before := bytes.Clone(b)
	got := call(t, "Hear", n, func(n api.Node) (api.Node, []api.Act, api.Errno) { return Hear(m, n, now, began, b, bad) }, toldHear(m, n, now, began, f, bad))
	if !bytes.Equal(b, before) {
		t.Errorf("Hear of %v changed it to %v", before, b)
	}
	return got
}

// expect compares an answer with what is written by hand.
func expect(t *testing.T, name string, got told, n api.Node, acts ...api.Act) {
	t.Helper()
	if !equal(got.n, n) || !slices.Equal(got.acts, acts) || got.e != api.OK {
		t.Errorf("%s:\ngot %v,\nnot %v", name, got, told{n, acts, api.OK})
	}
}

// nothing tells whether a node stays as it is, and does nothing.
func nothing(t *testing.T, name string, got told, n api.Node) {
	t.Helper()
	expect(t, name, got, n)
}

// fails compares an answer with an error.
func fails(t *testing.T, name string, got told, n api.Node, e api.Errno) {
	t.Helper()
	if !equal(got.n, n) || got.acts != nil || got.e != e {
		t.Errorf("%s: got %v, not %d", name, got, e)
	}
}
