package table

import (
	"slices"
	"testing"

	"pallet/api"
	"pallet/sample"
)

// P18.4

// ofWorld are the statements of a campaign that tell of its world, and the others.
func ofWorld(l []api.Stmt) (told, others []api.Stmt) {
	for _, x := range l {
		if _, is := ofWord(x); is || x.Word == "repeat" {
			others = append(others, x)
		} else {
			told = append(told, x)
		}
	}
	return told, others
}

// What is told may be, and so may what is told of a part of it.
func TestWhatIsToldMayBe(t *testing.T) {
	met := 0
	for i := range uint64(600) {
		l, _, e := Table(campaign(i, 1+int64(i%20))...)
		if Check(l...) != okE || Check(Instants(l...)...) != okE || e != okE && len(l) > 0 {
			t.Fatalf("%d: got %v, %d", i, l, e)
		}
		if len(l) > 0 {
			met++
			if Check(append(slices.Clone(l), api.Inj{At: l[len(l)-1].At - 1, Kind: l[0].Kind, Until: l[0].At - 1})...) != argE {
				t.Fatalf("%d: %v: and one that comes ahead", i, l)
			}
		}
	}
	if met < 300 {
		t.Errorf("of %d there are injections", met)
	}
}

// later are injections so much later.
func later(l []api.Inj, by int64) []api.Inj {
	l = slices.Clone(l)
	for i := range l {
		l[i].At += by
		l[i].Until += by
	}
	return l
}

// A repeat is as its block, as often, each time later by as much.
func TestRepeatIsAsItsBlock(t *testing.T) {
	met := map[api.Errno]int{}
	for i := range uint64(300) {
		told, others := ofWorld(campaign(i, 3))
		if parts := append(slices.Clone(told), others...); len(others) == 0 || deepOf(others) > 5 || checkTable(t, parts) != okE {
			continue
		}
		once, _, _ := Table(append(slices.Clone(told), others...)...)
		for _, often := range []int64{1, 2, 3, 7, 40} {
			for _, every := range []int64{0, 1, 999, int64(i) << 20, maxHorizon} {
				var want []api.Inj
				for k := range often {
					want = append(want, later(once, k*every)...)
				}
				got, _, e := Table(append(slices.Clone(told), repeat(often, every, others...))...)
				if met[e]++; len(want) > maxInj {
					if e != fullE || got != nil {
						t.Fatalf("%d: got %v, %d", i, got, e)
					}
					continue
				}
				if !same(got, sorted(want)) || e != okE {
					t.Fatalf("%d: %d times %d: got %v, %d, want %v", i, often, every, got, e, sorted(want))
				}
			}
		}
	}
	if met[okE] < 500 || met[fullE] < 100 {
		t.Errorf("met are %v", met)
	}
}

// deepOf is how deep statements are.
func deepOf(l []api.Stmt) int {
	most := 0
	sample.Visit(l, 1, func(x api.Stmt, deep int) {
		if x.Block {
			deep++
		}
		most = max(most, deep)
	})
	return most
}

// A repeat that is there once is its block; two repeats, one in the other, are one, where they are as often and as much later as it.
func TestRepeatsInRepeats(t *testing.T) {
	crash := sample.Said("crash", "nt", 1, 5)
	of := func(x api.Stmt) []api.Inj {
		l, _, e := Table(append(parsed(t, world), x)...)
		if e != okE {
			t.Fatalf("got %d", e)
		}
		return l
	}
	for every := int64(0); every < 2000; every += 401 {
		if !same(of(repeat(1, every, crash)), of(crash)) {
			t.Errorf("every %d: once is not as its block", every)
		}
		for _, n := range [][2]int64{{1, 1}, {2, 3}, {3, 2}, {10, 50}, {50, 10}, {500, 1}, {1, 500}} {
			two := of(repeat(n[0], n[1]*every, repeat(n[1], every, crash)))
			if one := of(repeat(n[0]*n[1], every, crash)); !same(two, one) {
				t.Errorf("%v: got %v, want %v", n, two, one)
			}
			if other := of(repeat(n[1], every, repeat(n[0], n[1]*every, crash))); !same(two, other) {
				t.Errorf("%v: got %v, want %v", n, two, other)
			}
		}
	}
}

// In whatever order statements stand, the table is the same; that there are too many is told of any order, if it is told of one.
func TestOrderPlaysNoPart(t *testing.T) {
	met := map[string]int{}
	for i := range uint64(200) {
		l := campaign(i, 1+int64(i%12))
		want, _, e := Table(l...)
		for j := range uint64(6) {
			sample.Mix(l, i+1000*j)
			if got, at, f := Table(l...); !same(got, want) || f != e || f == okE && at != 0 {
				t.Fatalf("%.900s: got %v, %d, %d, want %v, %d", sample.Shown(l), got, at, f, want, e)
			}
			met[sample.Shown(l)]++
		}
	}
	if len(met) < 1000 {
		t.Errorf("there are only %d orders", len(met))
	}
}

// What is injected is told once more by statements that stand once more.
func TestTwiceAsMany(t *testing.T) {
	for i := range uint64(200) {
		told, others := ofWorld(campaign(i, 3))
		once, _, _ := Table(append(slices.Clone(told), others...)...)
		twice, _, e := Table(slices.Concat(others, told, others)...)
		if want := sorted(append(slices.Clone(once), once...)); e == okE && !same(twice, want) || e != okE && e != fullE {
			t.Fatalf("%d: got %v, %d, want %v", i, twice, e, want)
		}
	}
}
