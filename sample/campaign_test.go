package sample

import (
	"testing"

	"pallet/api"
	"pallet/check"
	"pallet/parse"
)

func TestCampaign(t *testing.T) {
	words, nodes, met, deep, most := map[string]int{}, map[int64]int{}, map[string]int{}, 0, 0
	for i := range uint64(1000) {
		l := Campaign(i)
		if at, e := check.Check(l...); e != api.OK {
			t.Fatalf("%d: %.400s: %d, %d", i, Shown(l), at, e)
		}
		if !parse.Same(l, Campaign(i)) {
			t.Fatalf("%d: it is another one the second time", i)
		}
		met[Shown(l)]++
		deep, most = max(deep, parse.Depth(l...)), max(most, parse.Count(l...))
		Visit(l, 1, func(x api.Stmt, deep int) {
			words[x.Word]++
			if x.Word == "nodes" {
				nodes[x.Nums[0].N]++
			}
		})
	}
	for _, word := range []string{"nodes", "tick", "slot", "horizon", "drift", "delay", "power", "guard", "silence", "corrupt", "cut", "babble", "crash", "repeat"} {
		if words[word] < 500 {
			t.Errorf("of %s there are %d", word, words[word])
		}
	}
	if len(words) != 14 || len(nodes) != 15 || len(met) != 1000 || deep != 6 || most < 200 {
		t.Errorf("there are %d words, %d numbers of nodes, %d campaigns, %d deep, of %d statements at the most", len(words), len(nodes), len(met), deep, most)
	}
}

func TestSaid(t *testing.T) {
	for s, x := range map[string]api.Stmt{
		"a;":         Said("a", ""),
		"b -5;":      Said("b", "n", -5),
		"c 1 2ns 3;": Said("c", "ntn", 1, 2000, 3),
	} {
		if l, _, _ := parse.Parse(s); !parse.Same(l, []api.Stmt{x}) {
			t.Errorf("%s: got %s", s, Shown([]api.Stmt{x}))
		}
	}
}
