package sample

import (
	"slices"
	"strconv"
	"strings"

	"pallet/api"
	"pallet/drawn"
)

// Visit hands on each statement, ahead of those in its block, and how deep it is.
func Visit(l []api.Stmt, deep int, hand func(x api.Stmt, deep int)) {
	for _, x := range l {
		hand(x, deep)
		Visit(x.Body, deep+1, hand)
	}
}

// Each hands on where each statement stands.
func Each(l []api.Stmt, hand func(x *api.Stmt)) {
	for i := range l {
		hand(&l[i])
		Each(l[i].Body, hand)
	}
}

// Shown is all parts of statements, as a text: another one of other statements.
func Shown(l []api.Stmt) string {
	var b strings.Builder
	for _, x := range l {
		b.WriteString(strconv.Quote(x.Word))
		for _, n := range x.Nums {
			b.WriteString(" " + strconv.FormatInt(n.N, 10) + strconv.FormatBool(n.Time))
		}
		b.WriteString(strconv.FormatBool(x.Block) + "(" + Shown(x.Body) + ")")
	}
	return b.String()
}

// Tokens are the tokens of statements as they stand in a text; S of a number is left out, as it may be written in several ways.
func Tokens(l []api.Stmt) []api.Token {
	var tokens []api.Token
	for _, x := range l {
		tokens = append(tokens, api.Token{Kind: api.WordK, S: x.Word})
		for _, n := range x.Nums {
			tokens = append(tokens, api.Token{Kind: api.NumberK, N: n.N, Time: n.Time})
		}
		if !x.Block {
			tokens = append(tokens, api.Token{Kind: api.SignK, S: ";"})
			continue
		}
		tokens = append(tokens, api.Token{Kind: api.SignK, S: "{"})
		tokens = append(tokens, Tokens(x.Body)...)
		tokens = append(tokens, api.Token{Kind: api.SignK, S: "}"})
	}
	return tokens
}

// Places are lists in which a statement stands somewhere, all else of which may be.
func Places(x api.Stmt) [][]api.Stmt {
	a := api.Stmt{Word: "a"}
	in := func(l ...api.Stmt) api.Stmt { return api.Stmt{Word: "b", Block: true, Body: l} }
	return [][]api.Stmt{{x}, {a, x}, {x, a}, {in(x)}, {in(a), x}, {in(x), a}, {in(), in(a, in(a, x, a), a), a}, {in(in(in(in(x))))}}
}

// Nested are statements, each in the one ahead of it, so deep; the last one has a block, or has not.
func Nested(deep int, block bool) []api.Stmt {
	l := []api.Stmt{{Word: "a", Block: block}}
	for range deep - 1 {
		l = []api.Stmt{{Word: "a", Block: true, Body: l}}
	}
	return l
}

// Own are statements as they are, in new memory.
func Own(l []api.Stmt) []api.Stmt {
	l = slices.Clone(l)
	for i := range l {
		l[i].Nums, l[i].Body = slices.Clone(l[i].Nums), Own(l[i].Body)
	}
	return l
}

// Mix puts statements, and those in their blocks, into another order; from tells which one.
func Mix(l []api.Stmt, from uint64) {
	for i, n := range drawn.Numbers(len(l), from) {
		j := int(n>>8) % (i + 1)
		l[i], l[j] = l[j], l[i]
	}
	for i := range l {
		Mix(l[i].Body, from+uint64(i))
	}
}

// Spoil writes into all that statements have, and into the room behind it.
func Spoil(l []api.Stmt) {
	for i := range l {
		Spoil(l[i].Body)
		for j := range l[i].Nums {
			l[i].Nums[j] = api.Num{N: 99}
		}
		_ = append(l[i].Nums, api.Num{N: 98})
		l[i] = api.Stmt{Word: "spoilt"}
	}
	_ = append(l, api.Stmt{Word: "more"})
}
