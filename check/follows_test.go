package check

import (
	"slices"
	"testing"

	"pallet/api"
	"pallet/parse"
	"pallet/sample"
)

// P17.4

// What Tell tells is a campaign of just that world, and none of it may be left out.
func TestWhatIsToldIsACampaign(t *testing.T) {
	for _, c := range worlds(300) {
		l, e := Tell(c)
		if e != okE || parse.Check(l...) != okE {
			t.Fatalf("%v: got %s, %d", c, sample.Shown(l), e)
		}
		if at, e := Check(l...); at != 0 || e != okE {
			t.Fatalf("%s: got %d, %d", sample.Shown(l), at, e)
		}
		again, at, e := Conf(l...)
		if !Same(again, c) || shown(again) != shown(c) || at != 0 || e != okE || Fine(again) != okE {
			t.Fatalf("%v became %v, %d, %d", c, again, at, e)
		}
		for i := 0; i < len(l); i += 1 + len(l)/20 {
			if x, _, e := Conf(slices.Delete(slices.Clone(l), i, i+1)...); e == okE && Same(x, c) {
				t.Fatalf("%s: %d need not stand", sample.Shown(l), i)
			}
		}
	}
}

// Whatever world statements tell of may be, and is told as they tell it.
func TestWhatStatementsTellIsFine(t *testing.T) {
	for i := range uint64(300) {
		c, _, e := Conf(sample.Campaign(i)...)
		if e != okE || Fine(c) != okE {
			t.Fatalf("%d: %v: %d, %d", i, c, e, Fine(c))
		}
		l, _ := Tell(c)
		again, _, _ := Conf(l...)
		if twice, _ := Tell(again); !parse.Same(l, twice) {
			t.Fatalf("%s became %s", sample.Shown(l), sample.Shown(twice))
		}
	}
}

// ofWorld are the statements of a campaign that tell of its world, and the others.
func ofWorld(l []api.Stmt) (world, others []api.Stmt) {
	for _, x := range l {
		if isOfWorld(x.Word) {
			world = append(world, x)
		} else {
			others = append(others, x)
		}
	}
	return world, others
}

func TestInjectionsPlayNoPart(t *testing.T) {
	for i := range uint64(300) {
		l := sample.Campaign(i)
		want, _, _ := Conf(l...)
		world, others := ofWorld(l)
		lists := [][]api.Stmt{world, slices.Concat(world, others), slices.Concat(others, world), slices.Concat(others, world, others, others)}
		_, more := ofWorld(sample.Campaign(i + 1))
		// Another one's may name nodes that are none here.
		for _, x := range more {
			if at, e := Check(append(slices.Clone(l), x)...); e == okE {
				lists = append(lists, append(slices.Clone(l), x), append([]api.Stmt{x}, l...))
			} else if e != argE || at < parse.Count(l...) {
				t.Fatalf("%d, and %s: got %d, %d", i, sample.Shown([]api.Stmt{x}), at, e)
			}
		}
		for _, x := range lists {
			if c, at, e := Conf(x...); !Same(c, want) || shown(c) != shown(want) || at != 0 || e != okE {
				t.Fatalf("%.900s: got %v, %d, %d, want %v", sample.Shown(x), c, at, e, want)
			}
		}
	}
}

func TestOrderPlaysNoPart(t *testing.T) {
	met := map[string]int{}
	for i := range uint64(300) {
		l := sample.Own(sample.Campaign(i))
		want, _, _ := Conf(l...)
		for j := range uint64(10) {
			sample.Mix(l, i+1000*j)
			if c, at, e := Conf(l...); !Same(c, want) || shown(c) != shown(want) || at != 0 || e != okE {
				t.Fatalf("%.900s: got %v, %d, %d, want %v", sample.Shown(l), c, at, e, want)
			}
			met[sample.Shown(l)]++
		}
		slices.Reverse(l)
		if c, _, e := Conf(l...); !Same(c, want) || e != okE {
			t.Fatalf("%.900s: got %v, %d, want %v", sample.Shown(l), c, e, want)
		}
	}
	if len(met) < 2500 {
		t.Errorf("there are only %d orders", len(met))
	}
}

// In no order are statements a campaign that are none in another one, but what is told of them first may be another one.
func TestOrderOfWrongOnes(t *testing.T) {
	for i := range uint64(100) {
		l := sample.Own(sample.Campaign(i))
		was := l[0]
		for _, x := range faults(was) {
			l[0] = x
			_, want := Check(l...)
			mixed := sample.Own(l)
			sample.Mix(mixed, i)
			if _, e := Check(mixed...); (e == okE) != (want == okE) {
				t.Fatalf("%.900s: got %d, want %d", sample.Shown(mixed), e, want)
			}
		}
	}
}
