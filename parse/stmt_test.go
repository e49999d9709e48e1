package parse

import (
	"math"
	"slices"
	"strings"
	"testing"

	"pallet/api"
	"pallet/sample"
)

// P15.1

// checkStmts holds what is told of statements against what is to be told.
func checkStmts(t *testing.T, l []api.Stmt) {
	t.Helper()
	many, deep := sizeOf(l)
	if got := Count(l...); got != many {
		t.Fatalf("Count(%.99s): got %d, want %d", sample.Shown(l), got, many)
	}
	if got := Depth(l...); got != deep {
		t.Fatalf("Depth(%.99s): got %d, want %d", sample.Shown(l), got, deep)
	}
	if got, want := sample.Shown(Flat(l...)), sample.Shown(flatOf(l)); got != want {
		t.Fatalf("Flat(%.99s): got %.400s, want %.400s", sample.Shown(l), got, want)
	}
	want := api.ErrArg
	if mayBe(l) {
		want = api.OK
	}
	if got := Check(l...); got != want {
		t.Fatalf("Check(%.99s): got %d, want %d", sample.Shown(l), got, want)
	}
}

func TestNoStatements(t *testing.T) {
	if Check() != api.OK || Count() != 0 || Depth() != 0 || len(Flat()) != 0 || !Same(nil, []api.Stmt{}) || !Same(nil, nil) {
		t.Error("none are something")
	}
}

func TestStatementsByHand(t *testing.T) {
	cut := api.Stmt{Word: "cut", Nums: []api.Num{{N: 1}}}
	at := api.Stmt{Word: "at", Nums: []api.Num{{N: 5000, Time: true}}, Block: true, Body: []api.Stmt{cut, cut}}
	run := api.Stmt{Word: "run", Block: true, Body: []api.Stmt{at, {Word: "empty", Block: true}}}
	for i, x := range []struct {
		l          []api.Stmt
		many, deep int
		flat       string
	}{
		{[]api.Stmt{cut}, 1, 1, "cut"},
		{[]api.Stmt{cut, cut}, 2, 1, "cut cut"},
		{[]api.Stmt{{Word: "empty", Block: true}}, 1, 2, "empty"},
		{[]api.Stmt{at, cut}, 4, 2, "at cut cut cut"},
		{[]api.Stmt{cut, run, at}, 9, 3, "cut run at cut cut empty at cut cut"},
		// What may not be is counted likewise.
		{[]api.Stmt{{Body: []api.Stmt{{Body: []api.Stmt{{}}}}}, {}}, 4, 3, "   "},
	} {
		if got := Count(x.l...); got != x.many {
			t.Errorf("%d: Count: got %d", i, got)
		}
		if got := Depth(x.l...); got != x.deep {
			t.Errorf("%d: Depth: got %d", i, got)
		}
		var words []string
		for _, y := range Flat(x.l...) {
			words = append(words, y.Word)
			if y.Body != nil {
				t.Errorf("%d: Flat: %v has a Body", i, y)
			}
		}
		if got := strings.Join(words, " "); got != x.flat {
			t.Errorf("%d: Flat: got %.99q", i, got)
		}
		checkStmts(t, x.l)
	}
}

func TestEachSmallList(t *testing.T) {
	for many := range 7 {
		sample.EachList(many, func(l []api.Stmt) { checkStmts(t, l) })
	}
}

func TestDrawnStatements(t *testing.T) {
	for i := range uint64(1000) {
		l := sample.Stmts(int(i%40), 1+int(i%8), i)
		checkStmts(t, l)
	}
}

// One part that may not be spoils all, wherever it stands.
func TestOneWrongPart(t *testing.T) {
	for i := range uint64(200) {
		l := sample.Stmts(1+int(i%20), 1+int(i%maxDepth), i)
		sample.Each(l, func(x *api.Stmt) {
			was := *x
			for _, wrong := range []api.Stmt{
				{Word: "A", Nums: was.Nums, Block: was.Block, Body: was.Body},
				{Word: was.Word, Nums: make([]api.Num, maxNums+1), Block: was.Block, Body: was.Body},
				{Word: was.Word, Nums: []api.Num{{N: limit}}, Block: was.Block, Body: was.Body},
				{Word: was.Word, Nums: was.Nums, Body: []api.Stmt{{Word: "a"}}},
				{Word: was.Word, Nums: was.Nums, Block: true, Body: sample.Nested(maxDepth, false)},
			} {
				*x = wrong
				if e := Check(l...); e != api.ErrArg {
					t.Fatalf("%.400s: got %d", sample.Shown(l), e)
				}
				checkStmts(t, l)
			}
			*x = was
		})
		checkStmts(t, l)
	}
}

func TestWordsOfStatements(t *testing.T) {
	words := []string{"", "a", "z", "A", "9", "9a", "a9", "a b", " a", "a ", "a\n", "a;", "é", "a\xff", "-", "a-", "{", "a#",
		strings.Repeat("a", 15), strings.Repeat("a", 16), strings.Repeat("a", 17), "a" + strings.Repeat("9", 15), "a" + strings.Repeat("9", 16), strings.Repeat("é", 8)}
	for r := range rune(0x100) {
		words = append(words, string(r), "a"+string(r), string([]byte{byte(r)}))
	}
	for _, s := range words {
		for _, l := range sample.Places(api.Stmt{Word: s}) {
			checkStmts(t, l)
		}
		for _, l := range sample.Places(api.Stmt{Word: s, Block: true}) {
			checkStmts(t, l)
		}
	}
}

func TestNumbersOfStatements(t *testing.T) {
	for _, n := range []int64{0, 1, -1, limit - 1, limit, limit + 1, 1 - limit, -limit, -limit - 1, math.MaxInt64, math.MinInt64, math.MinInt64 + 1, 2 * limit, -2 * limit} {
		for _, isTime := range []bool{false, true} {
			for many := 1; many <= maxNums+2; many++ {
				for i := range many {
					nums := make([]api.Num, many)
					nums[i] = api.Num{N: n, Time: isTime}
					for _, l := range sample.Places(api.Stmt{Word: "a", Nums: nums}) {
						checkStmts(t, l)
					}
				}
			}
		}
	}
}

// Only a statement with a block has others; an empty list is none.
func TestBodiesOfStatements(t *testing.T) {
	for _, block := range []bool{false, true} {
		for _, body := range [][]api.Stmt{nil, {}, {{Word: "c"}}, {{Word: "c", Block: true}}, {{}}} {
			for _, l := range sample.Places(api.Stmt{Word: "a", Block: block, Body: body}) {
				checkStmts(t, l)
			}
		}
	}
	if e := Check(api.Stmt{Word: "a", Body: []api.Stmt{}}); e != api.OK {
		t.Errorf("an empty Body: got %d", e)
	}
}

func TestDepths(t *testing.T) {
	for deep := 1; deep < 20; deep++ {
		for _, block := range []bool{false, true} {
			for _, l := range sample.Places(sample.Nested(deep, block)[0]) {
				checkStmts(t, l)
			}
		}
	}
	for deep, want := range map[int]api.Errno{maxDepth: api.OK, maxDepth + 1: api.ErrArg} {
		if e := Check(sample.Nested(deep, false)...); e != want {
			t.Errorf("%d deep: got %d", deep, e)
		}
		if e := Check(sample.Nested(deep-1, true)...); e != want {
			t.Errorf("%d deep by an empty block: got %d", deep, e)
		}
	}
}

// Of as many levels as the document's bound has.
func TestVeryDeepStatements(t *testing.T) {
	const deep = 1 << 16
	l := sample.Nested(deep, false)
	if Count(l...) != deep || Depth(l...) != deep || Check(l...) != api.ErrArg || !Same(l, l) || len(Flat(l...)) != deep {
		t.Error("not so many, or not so deep")
	}
}

func TestManyStatements(t *testing.T) {
	for many := maxStmts - 2; many <= maxStmts+2; many++ {
		flat := slices.Repeat([]api.Stmt{{Word: "a"}}, many)
		checkStmts(t, flat)
		for _, within := range []int{0, 1, 999, 1997} {
			l := append([]api.Stmt{{Word: "b", Block: true, Body: flat[:within]}}, flat[within+1:]...)
			checkStmts(t, l)
			slices.Reverse(l)
			checkStmts(t, l)
		}
		// A quarter each stand in blocks, one within the other.
		var l []api.Stmt
		for part := range 4 {
			l = append(slices.Clone(flat[part*many/4+1:(part+1)*many/4]), api.Stmt{Word: "b", Block: true, Body: l})
		}
		checkStmts(t, l)
	}
}

// Statements that stand in their own blocks are too many, and too deep; and there is an end to telling that, soon.
func TestStatementsInThemselves(t *testing.T) {
	for _, many := range []int{1, 2, 1000, maxStmts} {
		l := slices.Repeat([]api.Stmt{{Word: "a", Block: true}}, many)
		for i := range l {
			l[i].Body = l
		}
		if e := Check(l...); e != api.ErrArg {
			t.Errorf("%d: got %d", many, e)
		}
	}
}

// Same tells two lists apart just if a part is another one.
func TestSameOfSmallLists(t *testing.T) {
	var all [][]api.Stmt
	for many := range 4 {
		sample.EachList(many, func(l []api.Stmt) { all = append(all, l) })
	}
	for _, a := range all {
		for _, b := range all {
			if got, want := Same(a, sample.Own(b)), sample.Shown(a) == sample.Shown(b); got != want {
				t.Fatalf("Same(%.400s, %.400s): got %v", sample.Shown(a), sample.Shown(b), got)
			}
		}
	}
}

func TestSamePartByPart(t *testing.T) {
	num := func(n int64, isTime bool) api.Num { return api.Num{N: n, Time: isTime} }
	var all [][]api.Stmt
	for _, x := range []api.Stmt{
		{}, {Word: "a"}, {Word: "b"}, {Word: "A"}, {Word: "a", Block: true}, {Block: true},
		{Word: "a", Nums: []api.Num{num(0, false)}}, {Word: "a", Nums: []api.Num{num(0, true)}}, {Word: "a", Nums: []api.Num{num(1, false)}},
		{Word: "a", Nums: []api.Num{num(-1, false)}}, {Word: "a", Nums: []api.Num{num(1, false), num(2, true)}}, {Word: "a", Nums: []api.Num{num(1, false), num(2, false)}},
		{Word: "a", Nums: []api.Num{num(2, true), num(1, false)}}, {Word: "a", Nums: make([]api.Num, 9)}, {Word: "a", Nums: make([]api.Num, 10)},
	} {
		all = append(all, sample.Places(x)...)
	}
	for _, a := range all {
		for _, b := range all {
			if got, want := Same(a, sample.Own(b)), sample.Shown(a) == sample.Shown(b); got != want {
				t.Fatalf("Same(%.400s, %.400s): got %v", sample.Shown(a), sample.Shown(b), got)
			}
		}
	}
	empty := []api.Stmt{{Word: "a", Nums: []api.Num{}, Body: []api.Stmt{}}}
	if !Same(empty, []api.Stmt{{Word: "a"}}) || !Same([]api.Stmt{{Word: "a"}}, empty) {
		t.Error("no numbers, and no statements, are told apart")
	}
}

// What is handed in stays as it was, and what Flat tells is the caller's own.
func TestFlatIsNew(t *testing.T) {
	for i := range uint64(200) {
		l := sample.Stmts(int(i%30), 1+int(i%6), i)
		was := sample.Own(l)
		flat := Flat(l...)
		want := sample.Own(flat)
		sample.Spoil(Flat(l...))
		if sample.Shown(flat) != sample.Shown(want) || sample.Shown(l) != sample.Shown(was) {
			t.Fatalf("%.400s became %.400s", sample.Shown(was), sample.Shown(l))
		}
		at := 0
		sample.Visit(l, 1, func(x api.Stmt, deep int) {
			if isPieceOf(flat[at].Word, x.Word) {
				t.Fatalf("%.99q stands in what was handed in", x.Word)
			}
			at++
		})
		sample.Spoil(l)
		if sample.Shown(flat) != sample.Shown(want) {
			t.Fatalf("%.400s became %.400s", sample.Shown(want), sample.Shown(flat))
		}
	}
}

func TestNothingHandedInIsChanged(t *testing.T) {
	for i := range uint64(200) {
		// Behind what is handed in there is room, in which something else stands.
		l := sample.Stmts(2+int(i%30), 1+int(i%6), i)
		was := sample.Own(l)
		part := l[:len(l)/2]
		_, _, _, _, _ = Check(part...), Count(part...), Depth(part...), Same(part, l), Flat(part...)
		if sample.Shown(l) != sample.Shown(was) {
			t.Fatalf("%.400s became %.400s", sample.Shown(was), sample.Shown(l))
		}
	}
}
