// Package sample has statements, campaigns and campaigns' texts for tests, the same ones each time.
package sample

import (
	"strconv"
	"strings"

	"pallet/api"
	"pallet/drawn"
)

// The document's numbers, written out: a limit that is mistaken elsewhere is noticed by tests that stand on these.
const (
	maxDepth = 6
	maxNums  = 8
	limit    = 1000000000000000000
)

// EachText hands on all texts of up to so many tokens.
func EachText(most int, hand func(s string)) {
	hand("")
	if most == 0 {
		return
	}
	for _, x := range []string{"a ", "5 ", ";", "{", "}"} {
		EachText(most-1, func(s string) { hand(x + s) })
	}
}

// EachList hands on all lists of so many statements, with a block or without, and with others in a block or without one.
func EachList(many int, hand func(l []api.Stmt)) {
	if many == 0 {
		hand(nil)
		return
	}
	for within := range many {
		EachList(within, func(body []api.Stmt) {
			EachList(many-1-within, func(others []api.Stmt) {
				for _, block := range []bool{false, true} {
					hand(append([]api.Stmt{{Word: "a", Block: block, Body: body}}, others...))
				}
			})
		})
	}
}

// Stmts are statements so many beside one another, and no deeper than so deep; from tells which ones they are.
func Stmts(many, deep int, from uint64) []api.Stmt {
	var l []api.Stmt
	for i, n := range drawn.Numbers(many, from) {
		x := api.Stmt{Word: ("z" + strconv.FormatUint(n|1<<52, 36))[:1+n>>2%11]}
		for j, m := range drawn.Numbers(int(n>>10%(maxNums+1)), n) {
			x.Nums = append(x.Nums, api.Num{N: number(m), Time: (j+int(m>>5))%2 == 0})
		}
		if x.Block = deep > 1 && n>>20%2 == 0; x.Block {
			x.Body = Stmts(min(int(n>>24%6), many-i-1), deep-1, n)
		}
		l = append(l, x)
	}
	return l
}

// number is one that a statement may have, of any size.
func number(n uint64) int64 {
	size := int64(n*1021%limit) >> (n >> 30 % 60)
	if n>>4%2 == 0 {
		return -size
	}
	return size
}

// pieces are of what campaigns are made; few of them end what is begun wrongly.
var pieces = []string{"a;", "at 5ns {", "run9 1 2 3 ;", "}", "b{", "x -3us 007 5000ps;", "empty {}", "z 1 2 3 4 5 6 7 8;", "\n", "# é; {5}\n", "}", "}", " ", "\t"}

// odd are pieces by which a text is no campaign's.
var odd = []string{"5", ";", "}", "a", "{", "a b;", "A", "\xff", "5x", "1000000s;", "abcdefghijklmnopq;", "z 1 2 3 4 5 6 7 8 9;", "a{a{a{a{a{a{", "#"}

// Text is a text of some pieces, mostly with as many } as blocks, and perhaps an odd piece; from tells which one it is.
func Text(from uint64) string {
	l := drawn.Numbers(32, from)
	s, open := "", 0
	for _, n := range l[2 : 2+l[0]%30] {
		x := pieces[n%uint64(len(pieces))]
		switch {
		case n>>20%128 == 0:
			x = odd[n%uint64(len(odd))]
		case x == "}" && open == 0, strings.HasSuffix(x, "{") && open == maxDepth-1:
			x = " "
		}
		open += strings.Count(x, "{") - strings.Count(x, "}")
		if strings.HasPrefix(x, "#") {
			open = strings.Count(s, "{") - strings.Count(s, "}")
		}
		s += x
	}
	if l[1]%16 > 0 {
		s += strings.Repeat("}", max(open, 0))
	}
	return s
}
