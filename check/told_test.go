package check

import (
	"fmt"
	"slices"
	"strconv"
	"strings"
	"testing"

	"pallet/api"
	"pallet/parse"
	"pallet/sample"
)

// What statements, and worlds, are to be, by the chapter's own words: its table is read as it stands, and each statement is held against all those ahead of it.

// The document's numbers, written out: a limit that is mistaken elsewhere is noticed here.
const (
	maxNodes   = 16
	maxPeriod  = 1000000000
	maxSlot    = 1048576
	maxDrift   = 1000000
	maxDelay   = 1099511627776
	maxHorizon = 1125899906842624
	maxStmts   = 2000

	okE   = 0
	argE  = 1
	formE = 4
	fullE = 7
	noneE = 8
)

// table is the chapter's: of each word its numbers, from what to what; t is ahead of a time's, n of a node's; {} is a block.
const table = `
nodes 2..16
tick t1..1000000000
slot 1..1048576 1..1048576 1..1048576 1..1048576
horizon t0..1125899906842624
drift n0..15 -1000000..1000000
delay n0..15 n0..15 t0..1099511627776
power n0..15 t0..1125899906842624
guard 0..1
silence n0..15 t0..1125899906842624 t0..1125899906842624
corrupt n0..15 t0..1125899906842624 t0..1125899906842624
cut 0..1 t0..1125899906842624 t0..1125899906842624
babble n0..15 t0..1125899906842624
crash n0..15 t0..1125899906842624
repeat 1..1000 t0..1125899906842624 {}
`

// column is a number of a row of the table.
type column struct {
	isTime, isNode bool
	from, to       int64
}

// row is a row of it, and which one it is, from 0 on.
type row struct {
	place   int
	columns []column
	block   bool
}

// rows are the rows of the table.
var rows = readRows()

func readRows() map[string]row {
	all := map[string]row{}
	for place, line := range strings.Split(strings.TrimSpace(table), "\n") {
		r := row{place: place}
		parts := strings.Fields(line)
		for _, s := range parts[1:] {
			if s == "{}" {
				r.block = true
				continue
			}
			c := column{isTime: s[0] == 't', isNode: s[0] == 'n'}
			from, to, _ := strings.Cut(strings.TrimLeft(s, "tn"), "..")
			c.from, _ = strconv.ParseInt(from, 10, 64)
			c.to, _ = strconv.ParseInt(to, 10, 64)
			r.columns = append(r.columns, c)
		}
		all[parts[0]] = r
	}
	return all
}

// words are the table's words, in its order.
func words() []string {
	l := make([]string, len(rows))
	for word, r := range rows {
		l[r.place] = word
	}
	return l
}

// isOfWorld tells whether a word is one of the first eight.
func isOfWorld(word string) bool {
	r, is := rows[word]
	return is && r.place < 8
}

// oneOf is what One is to answer.
func oneOf(x api.Stmt) api.Errno {
	r, is := rows[x.Word]
	if !is || x.Block != r.block || len(x.Nums) != len(r.columns) {
		return formE
	}
	for i, c := range r.columns {
		if x.Nums[i].Time != c.isTime {
			return formE
		}
	}
	for i, c := range r.columns {
		if x.Nums[i].N < c.from || x.Nums[i].N > c.to {
			return argE
		}
	}
	if x.Word == "delay" && x.Nums[0].N == x.Nums[1].N {
		return argE
	}
	return okE
}

// nodesOf are the nodes that a right statement names.
func nodesOf(x api.Stmt) []int64 {
	var l []int64
	for i, c := range rows[x.Word].columns {
		if c.isNode {
			l = append(l, x.Nums[i].N)
		}
	}
	return l
}

// checkOf is what Check is to answer.
func checkOf(l []api.Stmt) (int, api.Errno) {
	if parse.Check(l...) != okE {
		return 0, argE
	}
	var all []api.Stmt
	var deeps []int
	sample.Visit(l, 1, func(x api.Stmt, deep int) { all, deeps = append(all, x), append(deeps, deep) })
	var nodes [][]int64
	for i, x := range all {
		if e := oneOf(x); e != okE {
			return i, e
		}
		if isOfWorld(x.Word) && deeps[i] > 1 {
			return i, formE
		}
		nodes = append(nodes, nodesOf(x))
		for j, y := range all[:i] {
			if x.Word == y.Word && isOfWorld(x.Word) && slices.Equal(nodes[i], nodes[j]) {
				return i, fullE
			}
		}
	}
	slot, last := 0, int64(0)
	for _, word := range words()[:4] {
		at := slices.IndexFunc(all, func(x api.Stmt) bool { return x.Word == word })
		switch {
		case at < 0:
			return len(all), noneE
		case word == "slot":
			slot = at
		case word == "nodes":
			last = all[at].Nums[0].N - 1
		}
	}
	n := all[slot].Nums
	if long, lead, frame, window := n[0].N, n[1].N, n[2].N, n[3].N; long < 16 || window > lead || lead+frame+window >= long {
		return slot, argE
	}
	for i := range all {
		if slices.ContainsFunc(nodes[i], func(node int64) bool { return node > last }) {
			return i, argE
		}
	}
	return 0, okE
}

// find is the number behind those that stand behind a word, in a statement beside which no other one stands, or 0.
func find(l []api.Stmt, word string, ahead ...int64) int64 {
	for _, x := range l {
		isIt := x.Word == word
		for i, n := range ahead {
			isIt = isIt && x.Nums[i].N == n
		}
		if isIt {
			return x.Nums[len(ahead)].N
		}
	}
	return 0
}

// confOf is the world of a campaign.
func confOf(l []api.Stmt) api.Conf {
	many := find(l, "nodes")
	long := find(l, "slot")
	lead := find(l, "slot", long)
	frame := find(l, "slot", long, lead)
	window := find(l, "slot", long, lead, frame)
	c := api.Conf{
		M:       api.Medl{Nodes: int(many), Slot: long, Lead: lead, Frame: frame, Window: window},
		Tick:    find(l, "tick"),
		Horizon: find(l, "horizon"),
		Guard:   find(l, "guard") == 1,
	}
	for node := range many {
		c.Drift = append(c.Drift, find(l, "drift", node))
		c.Power = append(c.Power, find(l, "power", node))
		var d []int64
		for to := range many {
			d = append(d, find(l, "delay", node, to))
		}
		c.Delay = append(c.Delay, d)
	}
	return c
}

// toldOf are statements of a world, word by word, of what is not 0, or of all that may be told.
func toldOf(c api.Conf, isAll bool) []api.Stmt {
	l := []api.Stmt{
		sample.Said("nodes", "n", int64(c.M.Nodes)),
		sample.Said("tick", "t", c.Tick),
		sample.Said("slot", "nnnn", c.M.Slot, c.M.Lead, c.M.Frame, c.M.Window),
		sample.Said("horizon", "t", c.Horizon),
	}
	for i, n := range c.Drift {
		if n != 0 || isAll {
			l = append(l, sample.Said("drift", "nn", int64(i), n))
		}
	}
	for i, n := range c.Power {
		if n != 0 || isAll {
			l = append(l, sample.Said("power", "nt", int64(i), n))
		}
	}
	for i, d := range c.Delay {
		for j, n := range d {
			if n != 0 || isAll && i != j {
				l = append(l, sample.Said("delay", "nnt", int64(i), int64(j), n))
			}
		}
	}
	if c.Guard {
		l = append(l, sample.Said("guard", "n", 1))
	} else if isAll {
		l = append(l, sample.Said("guard", "n", 0))
	}
	return l
}

// shown is all parts of a world, as a text: another one of another world.
func shown(c api.Conf) string { return fmt.Sprint(c) }

// fineOf is what Fine is to answer: whether the world is one of which statements tell.
func fineOf(c api.Conf) api.Errno {
	l := toldOf(c, true)
	if _, e := checkOf(l); e != okE || shown(confOf(l)) != shown(c) {
		return argE
	}
	return okE
}

// checkOne holds what One tells against what is to be told.
func checkOne(t *testing.T, x api.Stmt) api.Errno {
	t.Helper()
	want := oneOf(x)
	if got := One(x); got != want {
		t.Fatalf("One(%.400s): got %d, want %d", sample.Shown([]api.Stmt{x}), got, want)
	}
	return want
}

// checkList holds what Check and Conf tell against what is to be told.
func checkList(t *testing.T, l []api.Stmt) api.Errno {
	t.Helper()
	at, want := checkOf(l)
	if i, got := Check(l...); i != at || got != want {
		t.Fatalf("Check(%.900s): got %d, %d, want %d, %d", sample.Shown(l), i, got, at, want)
	}
	var world api.Conf
	if want == okE {
		world = confOf(l)
	}
	if c, i, got := Conf(l...); shown(c) != shown(world) || i != at || got != want {
		t.Fatalf("Conf(%.900s): got %v, %d, %d, want %v, %d, %d", sample.Shown(l), c, i, got, world, at, want)
	}
	return want
}

// checkWorld holds what Fine and Tell tell against what is to be told.
func checkWorld(t *testing.T, c api.Conf) api.Errno {
	t.Helper()
	want := fineOf(c)
	if got := Fine(c); got != want {
		t.Fatalf("Fine(%v): got %d, want %d", c, got, want)
	}
	var told []api.Stmt
	if want == okE {
		told = toldOf(c, false)
	}
	if l, got := Tell(c); sample.Shown(l) != sample.Shown(told) || got != want {
		t.Fatalf("Tell(%v): got %.900s, %d, want %.900s, %d", c, sample.Shown(l), got, sample.Shown(told), want)
	}
	return want
}

// parsed are a text's statements.
func parsed(t *testing.T, s string) []api.Stmt {
	t.Helper()
	l, at, e := parse.Parse(s)
	if e != okE {
		t.Fatalf("%.400q: %v, %d", s, at, e)
	}
	return l
}
