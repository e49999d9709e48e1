package sample

import (
	"slices"
	"strconv"
	"strings"
	"testing"

	"pallet/api"
	"pallet/parse"
)

func TestEachText(t *testing.T) {
	met := map[string]int{}
	EachText(4, func(s string) { met[s]++ })
	if len(met) != 1+5+25+125+625 {
		t.Errorf("there are %d texts", len(met))
	}
	for _, s := range []string{"", "a ", "a 5 ;", "{{{{", "a {a }", "}5 ;{"} {
		if met[s] != 1 {
			t.Errorf("%q is met %d times", s, met[s])
		}
	}
}

func TestEachList(t *testing.T) {
	// So many ways there are of standing behind one another and in one another, and each one may have a block.
	for many, want := range []int{1, 1 * 2, 2 * 4, 5 * 8, 14 * 16, 42 * 32} {
		met := map[string]int{}
		EachList(many, func(l []api.Stmt) {
			met[Shown(l)]++
			if parse.Count(l...) != many {
				t.Fatalf("%s are not %d", Shown(l), many)
			}
		})
		if len(met) != want {
			t.Errorf("of %d there are %d lists, not %d", many, len(met), want)
		}
	}
}

func TestStmts(t *testing.T) {
	deep, blocks, met := 0, 0, map[string]int{}
	for i := range uint64(500) {
		most := 1 + int(i%6)
		l := Stmts(int(i%30), most, i)
		if e := parse.Check(l...); e != api.OK || len(l) != int(i%30) || parse.Depth(l...) > most {
			t.Fatalf("%d: %.400s: %d", i, Shown(l), e)
		}
		if !parse.Same(l, Stmts(int(i%30), most, i)) {
			t.Fatalf("%d: they are others the second time", i)
		}
		deep = max(deep, parse.Depth(l...))
		Visit(l, 1, func(x api.Stmt, deep int) {
			met[Shown([]api.Stmt{x})]++
			if x.Block {
				blocks++
			}
		})
	}
	if deep < 6 || blocks < 1000 || len(met) < 5000 {
		t.Errorf("they are %d deep, with %d blocks, and there are %d", deep, blocks, len(met))
	}
}

func TestText(t *testing.T) {
	met, right := map[string]int{}, 0
	for i := range uint64(1000) {
		s := Text(i)
		if met[s]++; s != Text(i) {
			t.Fatalf("%d: it is another one the second time", i)
		}
		if _, _, e := parse.Parse(s); e == api.OK {
			right++
		}
	}
	if right < 300 || right > 900 || len(met) < 800 {
		t.Errorf("of %d texts %d may be", len(met), right)
	}
}

func TestShownByHand(t *testing.T) {
	l := []api.Stmt{{Word: "a", Nums: []api.Num{{N: -5}, {N: 7, Time: true}}, Block: true, Body: []api.Stmt{{Word: "b c"}}}, {}}
	if got := Shown(l); got != `"a" -5false 7truetrue("b c"false())""false()` {
		t.Errorf("got %s", got)
	}
	if got := Shown(nil); got != "" {
		t.Errorf("got %s", got)
	}
}

// Tokens, joined, are parsed as the statements.
func TestTokens(t *testing.T) {
	for i := range uint64(200) {
		l := Stmts(int(i%30), 1+int(i%6), i)
		s := ""
		for _, x := range Tokens(l) {
			if x.Kind == api.NumberK {
				x.S = "0"
			}
			s += " " + x.S
		}
		got, _, e := parse.Parse(s)
		Each(l, func(x *api.Stmt) {
			for j := range x.Nums {
				x.Nums[j] = api.Num{}
			}
		})
		if e != api.OK || !parse.Same(got, l) {
			t.Fatalf("%.400q: %d", s, e)
		}
	}
}

func TestPlacesAndNested(t *testing.T) {
	for _, l := range Places(api.Stmt{Word: "here"}) {
		if strings.Count(Shown(l), "here") != 1 || parse.Check(l...) != api.OK {
			t.Errorf("%s", Shown(l))
		}
	}
	for deep := 1; deep < 20; deep++ {
		if l := Nested(deep, false); parse.Depth(l...) != deep || parse.Count(l...) != deep {
			t.Errorf("%d deep: %s", deep, Shown(l))
		}
		if l := Nested(deep, true); parse.Depth(l...) != deep+1 || parse.Count(l...) != deep {
			t.Errorf("%d deep, and a block: %s", deep, Shown(l))
		}
	}
}

// What is made anew shares nothing with what it was made of, and what is spoilt has no part that was there.
func TestOwnAndSpoil(t *testing.T) {
	for i := range uint64(100) {
		l := Stmts(1+int(i%30), 1+int(i%6), i)
		was, others := Shown(l), Own(l)
		if Shown(others) != was {
			t.Fatalf("%.400s became %.400s", was, Shown(others))
		}
		body, nums := l[0].Body, l[0].Nums
		Spoil(l)
		if Shown(others) != was {
			t.Fatalf("%.400s became %.400s", was, Shown(others))
		}
		for _, x := range append(l, body...) {
			if x.Word != "spoilt" || x.Nums != nil || x.Body != nil {
				t.Fatalf("%.400s is left", Shown([]api.Stmt{x}))
			}
		}
		for _, n := range nums {
			if n.N != 99 {
				t.Fatalf("%d is left", n.N)
			}
		}
	}
}

// What is mixed stands in another order, mostly, and has the same parts.
func TestMix(t *testing.T) {
	parts := func(l []api.Stmt) []string {
		var all []string
		Visit(l, 1, func(x api.Stmt, deep int) {
			all = append(all, strconv.Itoa(deep)+x.Word+strconv.Itoa(len(x.Nums))+strconv.Itoa(len(x.Body)))
		})
		slices.Sort(all)
		return all
	}
	met := map[string]int{}
	for i := range uint64(500) {
		l := Own(Campaign(7))
		Mix(l, i)
		if !slices.Equal(parts(l), parts(Campaign(7))) {
			t.Fatalf("%d: %s is left", i, Shown(l))
		}
		again := Own(Campaign(7))
		if Mix(again, i); Shown(again) != Shown(l) {
			t.Fatalf("%d: it is another one the second time", i)
		}
		met[Shown(l)]++
	}
	if len(met) < 490 {
		t.Errorf("there are %d orders", len(met))
	}
}
