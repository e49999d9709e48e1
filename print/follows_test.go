package print

import (
	"strings"
	"testing"

	"pallet/api"
	"pallet/parse"
	"pallet/sample"
)

// P16.4

// What is printed is parsed as it was, and is tidy.
func TestWhatIsPrintedIsParsed(t *testing.T) {
	check := func(l []api.Stmt) {
		s, e := Print(l...)
		if e != api.OK {
			return
		}
		got, at, e := parse.Parse(s)
		if !parse.Same(got, l) || sample.Shown(got) != sample.Shown(l) || at != (api.Place{}) || e != api.OK || !Is(s) {
			t.Fatalf("%.400q: got %.400s, %v, %d", s, sample.Shown(got), at, e)
		}
	}
	for many := range 7 {
		sample.EachList(many, check)
	}
	for i := range uint64(1000) {
		check(sample.Stmts(int(i%60), 1+int(i%maxDepth), i))
	}
	_, right := wrongs()
	for _, x := range right {
		for _, l := range sample.Places(x) {
			check(l)
		}
	}
	for blocks := range maxDepth {
		check(longText(maxText, blocks))
	}
}

// A line is parsed as its statement without others.
func TestALineIsParsed(t *testing.T) {
	for i := range uint64(500) {
		for _, x := range sample.Stmts(20, 3, i) {
			s, e := Line(x)
			if x.Body = nil; x.Block {
				s += "}"
			}
			if got, _, _ := parse.Parse(s); e != api.OK || !parse.Same(got, []api.Stmt{x}) {
				t.Fatalf("%.99q, %d: parsed as %.400s", s, e, sample.Shown(got))
			}
		}
	}
}

func TestTidiedTwice(t *testing.T) {
	many := 0
	check := func(s string) {
		once, _, e := Tidy(s)
		if e != api.OK {
			return
		}
		many++
		if twice, at, e := Tidy(once); twice != once || at != (api.Place{}) || e != api.OK || !Is(once) {
			t.Fatalf("%.400q is tidied to %.400q, and that to %.400q, %v, %d", s, once, twice, at, e)
		}
	}
	sample.EachText(7, check)
	eachTidy(6, check)
	for i := range uint64(5000) {
		check(sample.Text(i))
	}
	if many < 2500 {
		t.Errorf("only %d texts may be", many)
	}
}

// tidied are texts that may be, small ones, and ones whose statements are the same, or nearly so.
func tidied() []string {
	var all []string
	sample.EachText(6, func(s string) {
		if _, _, e := parse.Parse(s); e == api.OK {
			all = append(all, s)
		}
	})
	for _, n := range []string{"5ns", "5000ps", "05ns", "5000", "0", "-0", "0s", "-0ms", "00", "1s", "1000ms", "-1s", "-01s", "7", "-7", "7ps", "007ps", "1000000us"} {
		all = append(all, "a "+n+";", "a{a "+n+";}", "a\t"+n+"{a ; }# "+n+"\n", "\n\na "+n+" 1;", "a 1 "+n+";")
	}
	return append(all, "# é", "a;b;", "b;a;", "a ; b\n;", "ab;", "a1;", "a 1;", "a{}b;", "a{b;}", "a{ b; }\n", "a{b{}}", "a{ b {\n}}")
}

// Two texts are tidied the same just if their statements are.
func TestTidiedTheSame(t *testing.T) {
	all := tidied()
	var tidy []string
	var lists [][]api.Stmt
	for _, s := range all {
		x, _, e := Tidy(s)
		if e != api.OK {
			t.Fatalf("%.99q: got %d", s, e)
		}
		l, _, _ := parse.Parse(s)
		tidy, lists = append(tidy, x), append(lists, l)
	}
	same := 0
	for i := range all {
		for j := range all {
			got, want := tidy[i] == tidy[j], parse.Same(lists[i], lists[j])
			if got != want {
				t.Fatalf("%.99q and %.99q are tidied to %.99q and %.99q", all[i], all[j], tidy[i], tidy[j])
			}
			if got && i != j {
				same++
			}
		}
	}
	if same < 100 {
		t.Errorf("only %d pairs are the same", same)
	}
}

// What stands between tokens plays no part.
func TestSpacesPlayNoPart(t *testing.T) {
	for i := range uint64(500) {
		l := sample.Stmts(int(i%20), 1+int(i%maxDepth), i)
		want, _ := Print(l...)
		for _, between := range []string{"\n", "\t\t", " # é; {\n ", "\n\n  "} {
			s := strings.NewReplacer(" ", between, "\n", between).Replace(want)
			if tidy, _, e := Tidy(s); tidy != want || e != api.OK {
				t.Fatalf("%.400q is tidied to %.400q, %d, not %.400q", s, tidy, e, want)
			}
		}
		if tidy, _, e := Tidy(closeText(l)); tidy != want || e != api.OK {
			t.Fatalf("%.400q is tidied to %.400q, %d, not %.400q", closeText(l), tidy, e, want)
		}
	}
}
