package check

import (
	"math"
	"slices"
	"strings"
	"testing"

	"pallet/api"
	"pallet/sample"
)

// P17.1

func TestOneByHand(t *testing.T) {
	for s, want := range map[string]api.Errno{
		"nodes 2;": okE, "nodes 16;": okE, "nodes 1;": argE, "nodes 17;": argE, "nodes 4ns;": formE, "nodes;": formE, "nodes 4 4;": formE, "nodes 4 {}": formE,
		"tick 1ps;": okE, "tick 1ms;": okE, "tick 0s;": argE, "tick 1001us;": argE, "tick 1;": formE,
		"slot 1 1 1 1;": okE, "slot 1048576 1048576 1048576 1048576;": okE, "slot 16 1 1 0;": argE, "slot 16 1 1048577 1;": argE, "slot 16 1 1;": formE, "slot 16 1 1 1 1;": formE, "slot 16 1 1 1ps;": formE,
		"horizon 0s;": okE, "horizon 1125899906842624ps;": okE, "horizon 1125899906842625ps;": argE, "horizon -1ps;": argE, "horizon 0;": formE,
		"drift 0 -1000000;": okE, "drift 15 1000000;": okE, "drift 16 0;": argE, "drift -1 0;": argE, "drift 0 1000001;": argE, "drift 0 -1000001;": argE, "drift 0 1ps;": formE,
		"delay 0 15 0s;": okE, "delay 15 0 1099511627776ps;": okE, "delay 1 0 1099511627777ps;": argE, "delay 3 3 0s;": argE, "delay 16 16 0s;": argE, "delay 0 16 0s;": argE, "delay 3 3 0;": formE, "delay 0 1 2 0s;": formE,
		"power 15 0s;": okE, "power 0 1125899906842625ps;": argE, "power 16 0s;": argE, "power 0s 0s;": formE,
		"guard 0;": okE, "guard 1;": okE, "guard 2;": argE, "guard -1;": argE, "guard 1s;": formE,
		"silence 0 0s 0s;": okE, "silence 15 1125s 1125s;": okE, "silence 0 1126s 0s;": argE, "silence 0 0s 1126s;": argE, "silence 16 0s 0s;": argE, "silence 0 0s;": formE, "silence 0 0s 0;": formE,
		"corrupt 0 0s 0s;": okE, "corrupt 15 1125s 1125s;": okE, "corrupt 0 -1s 0s;": argE, "corrupt 0 0s -1s;": argE, "corrupt 0 0 0s;": formE, "corrupt 0 0s 0s {}": formE,
		"cut 0 0s 0s;": okE, "cut 1 1125s 1125s;": okE, "cut 2 0s 0s;": argE, "cut -1 0s 0s;": argE, "cut 0 0s 1126s;": argE, "cut 0s 0s 0s;": formE,
		"babble 15 0s;": okE, "babble 16 0s;": argE, "babble 0 1126s;": argE, "babble 0 0s 0s;": formE,
		"crash 15 1125s;": okE, "crash -1 0s;": argE, "crash 0 -1ps;": argE, "crash 0 0;": formE,
		"repeat 1 0s {}": okE, "repeat 1000 1125s { repeat; odd {} }": okE, "repeat 0 0s {}": argE, "repeat 1001 0s {}": argE, "repeat 1 1126s {}": argE, "repeat 1 0s;": formE, "repeat 1 0 {}": formE, "repeat 1s 0s {}": formE,
		"node 4;": formE, "a;": formE, "a {}": formE, "nodes2 4;": formE, "inject 0 0s;": formE,
	} {
		x := parsed(t, s)[0]
		if e := One(x); e != want {
			t.Errorf("One(%q): got %d, want %d", s, e, want)
		}
		checkOne(t, x)
	}
}

// rightOf is a right statement of a word: each of its numbers is the least one, or the one behind that, so that no two nodes are the same.
func rightOf(word string) api.Stmt {
	x := api.Stmt{Word: word, Block: rows[word].block}
	for i, c := range rows[word].columns {
		x.Nums = append(x.Nums, api.Num{N: c.from + int64(i%2), Time: c.isTime})
	}
	return x
}

func TestEachWordMayBe(t *testing.T) {
	for _, word := range words() {
		if e := checkOne(t, rightOf(word)); e != okE {
			t.Errorf("%s: %d", word, e)
		}
	}
}

func TestWordsOfNone(t *testing.T) {
	near := []string{"", "a", "node", "Nodes", "NODES", "nodes ", " nodes", "nodes\x00", "inj", "end", "é", "\xff", strings.Repeat("nodes", 4)}
	for _, word := range words() {
		near = append(near, word[1:], word[:len(word)-1], word+"s", word+"0", strings.ToUpper(word), word+word, word+";")
	}
	for _, like := range words() {
		for _, word := range near {
			x := rightOf(like)
			x.Word = word
			if e := checkOne(t, x); e != formE {
				t.Errorf("%q like %s: %d", word, like, e)
			}
		}
	}
}

// Of each word all numbers of numbers, each of which is a time, or none, with a block and without.
func TestKindsOfNumbers(t *testing.T) {
	for _, word := range words() {
		right := rightOf(word)
		for many := range 7 {
			for times := range 1 << many {
				x := api.Stmt{Word: word, Nums: slices.Repeat([]api.Num{{N: 1}}, many)}
				for i := range x.Nums {
					x.Nums[i].Time = times>>i&1 == 1
					if i < len(right.Nums) {
						x.Nums[i].N = right.Nums[i].N
					}
				}
				for _, x.Block = range []bool{false, true} {
					checkOne(t, x)
				}
			}
		}
	}
}

// Of each word all of its numbers at, and beside, the edges of what they are to be.
func TestEdgesOfNumbers(t *testing.T) {
	for _, word := range words() {
		met := map[api.Errno]int{}
		x := rightOf(word)
		var try func(at int)
		try = func(at int) {
			if at == len(x.Nums) {
				met[checkOne(t, x)]++
				return
			}
			c := rows[word].columns[at]
			for _, n := range []int64{c.from - 1, c.from, c.from + 1, (c.from + c.to) / 2, c.to - 1, c.to, c.to + 1, 0, -1, math.MinInt64, math.MaxInt64} {
				x.Nums[at].N = n
				try(at + 1)
			}
		}
		try(0)
		if met[okE] == 0 || met[argE] == 0 || len(met) != 2 {
			t.Errorf("%s: met are %v", word, met)
		}
	}
}

// A kind that is wrong is told ahead of a number that is.
func TestFormAheadOfArg(t *testing.T) {
	for _, word := range words() {
		for i := range rows[word].columns {
			for j := range rows[word].columns {
				x := rightOf(word)
				x.Nums[i].N = -1 << 60
				if e := checkOne(t, x); e != argE {
					t.Errorf("%s: %d", word, e)
				}
				x.Nums[j].Time = !x.Nums[j].Time
				if e := checkOne(t, x); e != formE {
					t.Errorf("%s: %d", word, e)
				}
			}
			x := rightOf(word)
			x.Nums[i].N = -1 << 60
			x.Block = !x.Block
			if e := checkOne(t, x); e != formE {
				t.Errorf("%s: %d", word, e)
			}
		}
	}
}

func TestDelaysOfEachTwo(t *testing.T) {
	for from := range int64(18) {
		for to := range int64(18) {
			want := api.Errno(okE)
			if from > 15 || to > 15 || from == to {
				want = argE
			}
			if e := checkOne(t, sample.Said("delay", "nnt", from, to, 7)); e != want {
				t.Errorf("from %d to %d: %d", from, to, e)
			}
		}
	}
	// It is nodes alone that are not the same.
	for _, s := range []string{"silence 1 1ps 1ps;", "slot 1 1 1 1;", "drift 1 1;", "crash 1 1ps;", "repeat 1 1ps {}"} {
		if e := checkOne(t, parsed(t, s)[0]); e != okE {
			t.Errorf("%s: %d", s, e)
		}
	}
}

// A Body plays no part, whatever it is; whether there is a block does.
func TestBodyOfOne(t *testing.T) {
	own := []api.Stmt{{Word: "repeat", Block: true}}
	own[0].Body = own
	bodies := [][]api.Stmt{nil, {}, {{}}, {rightOf("crash")}, {rightOf("nodes")}, {{Word: "odd", Body: []api.Stmt{{}}}}, sample.Nested(20, true), own, slices.Repeat([]api.Stmt{{}}, maxStmts+1)}
	for _, word := range append(words(), "odd") {
		x := rightOf(word)
		for _, x.Block = range []bool{false, true} {
			x.Body = nil
			want := checkOne(t, x)
			for i, body := range bodies {
				x.Body = body
				if e := One(x); e != want {
					t.Errorf("%s, %v, %d: got %d, want %d", word, x.Block, i, e, want)
				}
			}
		}
	}
}

// A statement is not asked whether it may be (parse.Check) ahead of what it is.
func TestManyNumbersOfOne(t *testing.T) {
	for _, many := range []int{8, 9, 100, 1 << 16} {
		for _, word := range append(words(), "", "odd") {
			if e := checkOne(t, api.Stmt{Word: word, Nums: make([]api.Num, many), Block: word == "repeat"}); e != formE {
				t.Errorf("%d behind %s: %d", many, word, e)
			}
		}
	}
}

func TestOneOfDrawnStatements(t *testing.T) {
	for i := range uint64(300) {
		sample.Visit(sample.Stmts(20, 3, i), 1, func(x api.Stmt, deep int) { checkOne(t, x) })
		sample.Visit(sample.Campaign(i), 1, func(x api.Stmt, deep int) {
			if e := checkOne(t, x); e != okE {
				t.Fatalf("%s: %d", sample.Shown([]api.Stmt{x}), e)
			}
		})
	}
}

func TestOneChangesNothing(t *testing.T) {
	for _, word := range words() {
		x := rightOf(word)
		x.Body = []api.Stmt{rightOf("crash")}
		was := sample.Shown([]api.Stmt{x})
		One(x)
		if got := sample.Shown([]api.Stmt{x}); got != was {
			t.Errorf("%s became %s", was, got)
		}
	}
}
