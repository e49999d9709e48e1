package medl

import (
	"math"
	"math/big"
	"slices"
	"testing"

	"pallet/api"
	"pallet/drawn"
)

// The chapter's numbers, written out: a limit that is mistaken elsewhere is noticed here.
const (
	minNodes = 2
	maxNodes = 16
	minSlot  = 16
	maxSlot  = 1048576
	maxSlots = 4294967296
)

// four is a plain schedule.
var four = api.Medl{Nodes: 4, Slot: 100, Lead: 20, Frame: 30, Window: 10}

// about are the numbers on, below and above each of l.
func about(l ...int64) []int64 {
	var all []int64
	for _, n := range l {
		all = append(all, n)
		if n > math.MinInt64 {
			all = append(all, n-1)
		}
		if n < math.MaxInt64 {
			all = append(all, n+1)
		}
	}
	slices.Sort(all)
	return slices.Compact(all)
}

// sum is a sum without end.
func sum(l ...int64) *big.Int {
	all := new(big.Int)
	for _, n := range l {
		all.Add(all, big.NewInt(n))
	}
	return all
}

// may tells whether a schedule may be, by the chapter's own words.
func may(m api.Medl) bool {
	return minNodes <= m.Nodes && m.Nodes <= maxNodes &&
		minSlot <= m.Slot && m.Slot <= maxSlot &&
		m.Lead >= 1 && m.Frame >= 1 && m.Window >= 1 &&
		m.Window <= m.Lead &&
		sum(m.Lead, m.Frame, m.Window).Cmp(big.NewInt(m.Slot)) < 0
}

// good are schedules that may be: the tightest ones of each slot's length, and some with room.
func good() []api.Medl {
	var l []api.Medl
	for n := minNodes; n <= maxNodes; n++ {
		for _, s := range []int64{minSlot, minSlot + 1, 100, 1023, maxSlot - 1, maxSlot} {
			half := s/2 - 1
			l = append(l,
				api.Medl{Nodes: n, Slot: s, Lead: 1, Frame: 1, Window: 1},
				api.Medl{Nodes: n, Slot: s, Lead: 1, Frame: s - 3, Window: 1},
				api.Medl{Nodes: n, Slot: s, Lead: s - 3, Frame: 1, Window: 1},
				api.Medl{Nodes: n, Slot: s, Lead: half, Frame: s - 2*half - 1, Window: half},
				api.Medl{Nodes: n, Slot: s, Lead: 5, Frame: 3, Window: 4})
		}
	}
	return l
}

// bad are schedules that may not be, each but just.
func bad() []api.Medl {
	l := []api.Medl{{}}
	spoil := func(f func(m *api.Medl)) {
		m := four
		f(&m)
		l = append(l, m)
	}
	for _, n := range []int{1, 17, 0, -4, math.MaxInt, math.MinInt} {
		spoil(func(m *api.Medl) { m.Nodes = n })
	}
	for _, n := range []int64{60, maxSlot + 1, 0, -100, math.MaxInt64, math.MinInt64} {
		spoil(func(m *api.Medl) { m.Slot = n })
	}
	for _, n := range []int64{9, 60, 0, -20, math.MaxInt64, math.MinInt64} {
		spoil(func(m *api.Medl) { m.Lead = n })
	}
	for _, n := range []int64{70, 0, -30, math.MaxInt64, math.MinInt64} {
		spoil(func(m *api.Medl) { m.Frame = n })
	}
	for _, n := range []int64{21, 0, -10, math.MaxInt64, math.MinInt64} {
		spoil(func(m *api.Medl) { m.Window = n })
	}
	return append(l,
		api.Medl{Nodes: 4, Slot: 15, Lead: 2, Frame: 3, Window: 1},
		// Sums that go around are small, or below 0.
		api.Medl{Nodes: 4, Slot: 100, Lead: math.MaxInt64, Frame: math.MaxInt64, Window: 2},
		api.Medl{Nodes: 4, Slot: 100, Lead: math.MaxInt64, Frame: math.MaxInt64, Window: 12},
		api.Medl{Nodes: 4, Slot: 100, Lead: 1, Frame: math.MaxInt64, Window: 1},
		api.Medl{Nodes: 4, Slot: 100, Lead: math.MaxInt64, Frame: 3, Window: math.MaxInt64})
}

// slots are numbers of slots at the edges, those above the greatest among them.
func slots() []uint64 {
	l := []uint64{maxSlots + 2, 1 << 33, math.MaxInt64, 1 << 63, math.MaxUint64}
	for n := range uint64(40) {
		l = append(l, n, maxSlots+1-n)
	}
	return append(l, 1<<20-1, 1<<20, 1<<31, 1<<31+5)
}

// drawnMedl is a schedule that may be, of five drawn numbers.
func drawnMedl(l []uint64) api.Medl {
	m := api.Medl{Nodes: minNodes + int(l[0]%(maxNodes-minNodes+1))}
	m.Slot = minSlot + int64(l[1]%[]uint64{8, 1000, maxSlot - minSlot + 1}[l[1]>>25%3])
	m.Window = 1 + int64(l[2]%uint64((m.Slot-2)/2))
	m.Lead = m.Window + int64(l[3]%uint64(m.Slot-1-2*m.Window))
	m.Frame = 1 + int64(l[4]%uint64(m.Slot-1-m.Lead-m.Window))
	return m
}

// P7.1

func TestCheckByHand(t *testing.T) {
	for _, m := range []api.Medl{
		four,
		{Nodes: 2, Slot: 16, Lead: 1, Frame: 1, Window: 1},
		{Nodes: 16, Slot: 1048576, Lead: 1, Frame: 1, Window: 1},
		{Nodes: 4, Slot: 100, Lead: 10, Frame: 30, Window: 10},
		{Nodes: 4, Slot: 100, Lead: 20, Frame: 69, Window: 10},
		{Nodes: 4, Slot: 61, Lead: 20, Frame: 30, Window: 10},
	} {
		if e := Check(m); e != api.OK {
			t.Errorf("Check(%v) is %d", m, e)
		}
	}
	for _, m := range bad() {
		if e := Check(m); e != api.ErrArg {
			t.Errorf("Check(%v) is %d", m, e)
		}
	}
}

func compareCheck(t *testing.T, m api.Medl) {
	t.Helper()
	want := api.OK
	if !may(m) {
		want = api.ErrArg
	}
	if e := Check(m); e != want {
		t.Errorf("Check(%v) is %d", m, e)
	}
}

func TestCheckOfAllSmall(t *testing.T) {
	for slot := int64(14); slot <= 19; slot++ {
		for lead := int64(-1); lead <= slot+1; lead++ {
			for frame := int64(-1); frame <= slot+1; frame++ {
				for window := int64(-1); window <= slot+1; window++ {
					compareCheck(t, api.Medl{Nodes: 3, Slot: slot, Lead: lead, Frame: frame, Window: window})
				}
			}
		}
	}
}

func TestCheckAtTheEdges(t *testing.T) {
	nodes := about(0, minNodes, maxNodes, math.MaxInt64, math.MinInt64)
	lengths := about(0, minSlot, maxSlot, math.MaxInt64, math.MinInt64)
	parts := about(0, 7, minSlot-3, maxSlot/2-1, maxSlot-3, math.MaxInt64, math.MinInt64)
	for _, n := range nodes {
		for _, s := range lengths {
			for _, a := range parts {
				for _, b := range parts {
					for _, c := range parts {
						compareCheck(t, api.Medl{Nodes: int(n), Slot: s, Lead: a, Frame: b, Window: c})
					}
				}
			}
		}
	}
}

func TestRoundByHand(t *testing.T) {
	for i, x := range []struct {
		m    api.Medl
		want int64
	}{
		{four, 400},
		{api.Medl{Nodes: 2, Slot: 16, Lead: 1, Frame: 1, Window: 1}, 32},
		{api.Medl{Nodes: 16, Slot: 1048576, Lead: 1, Frame: 1, Window: 1}, 16777216},
		{api.Medl{Nodes: 7, Slot: 1000, Lead: 20, Frame: 30, Window: 10}, 7000},
	} {
		if n, e := Round(x.m); n != x.want || e != api.OK {
			t.Errorf("%d: Round(%v): got %d, %d", i, x.m, n, e)
		}
	}
}

func TestSlotByHand(t *testing.T) {
	three := api.Medl{Nodes: 3, Slot: 1048576, Lead: 20, Frame: 30, Window: 10}
	for i, x := range []struct {
		m     api.Medl
		slot  uint64
		node  int
		begin int64
		last  bool
		e     api.Errno
	}{
		{four, 0, 0, 0, false, api.OK},
		{four, 3, 3, 300, true, api.OK},
		{four, 4, 0, 400, false, api.OK},
		// The chapter's example.
		{four, 6, 2, 600, false, api.OK},
		{four, 7, 3, 700, true, api.OK},
		{four, 4294967295, 3, 429496729500, true, api.OK},
		{four, 4294967296, 0, 429496729600, false, api.OK},
		{four, 4294967297, 0, 0, false, api.ErrArg},
		{four, math.MaxUint64, 0, 0, false, api.ErrArg},
		{three, 4294967295, 0, 4503599626321920, false, api.OK},
		{three, 4294967296, 1, 4503599627370496, false, api.OK},
		{three, 2, 2, 2097152, true, api.OK},
	} {
		if n, e := Owner(x.m, x.slot); n != x.node || e != x.e {
			t.Errorf("%d: Owner: got %d, %d", i, n, e)
		}
		if n, e := Begin(x.m, x.slot); n != x.begin || e != x.e {
			t.Errorf("%d: Begin: got %d, %d", i, n, e)
		}
		if is, e := Last(x.m, x.slot); is != x.last || e != x.e {
			t.Errorf("%d: Last: got %v, %d", i, is, e)
		}
	}
}

// compareSlot holds Owner, Begin and Last against numbers without end.
func compareSlot(t *testing.T, m api.Medl, slot uint64) {
	t.Helper()
	node, e := Owner(m, slot)
	begin, f := Begin(m, slot)
	last, g := Last(m, slot)
	if slot > maxSlots {
		if node != 0 || begin != 0 || last || e != api.ErrArg || f != api.ErrArg || g != api.ErrArg {
			t.Errorf("%v, %d: got %d, %d, %v with %d, %d, %d", m, slot, node, begin, last, e, f, g)
		}
		return
	}
	at := new(big.Int).SetUint64(slot)
	whose := new(big.Int).Mod(at, big.NewInt(int64(m.Nodes))).Int64()
	at.Mul(at, big.NewInt(m.Slot))
	if int64(node) != whose || at.Cmp(big.NewInt(begin)) != 0 || last != (whose == int64(m.Nodes)-1) ||
		e != api.OK || f != api.OK || g != api.OK {
		t.Errorf("%v, %d: got %d, %d, %v with %d, %d, %d", m, slot, node, begin, last, e, f, g)
	}
}

func TestSlotsAtTheEdges(t *testing.T) {
	for _, m := range good() {
		if n, e := Round(m); n != int64(m.Nodes)*m.Slot || e != api.OK {
			t.Errorf("Round(%v): got %d, %d", m, n, e)
		}
		for _, slot := range slots() {
			compareSlot(t, m, slot)
		}
	}
}

func TestSlotsOfDrawn(t *testing.T) {
	for l := drawn.Numbers(6*5000, 7); len(l) > 0; l = l[6:] {
		compareSlot(t, drawnMedl(l), l[5]%(maxSlots+100))
	}
}

// Whatever else is handed in with it, a schedule that may not be is ErrArg, and all else is zero.
func TestScheduleThatMayNotBe(t *testing.T) {
	for _, m := range bad() {
		if n, e := Round(m); n != 0 || e != api.ErrArg {
			t.Errorf("Round(%v): got %d, %d", m, n, e)
		}
		for _, slot := range []uint64{0, 1, 7, maxSlots, maxSlots + 1, math.MaxUint64} {
			if n, e := Owner(m, slot); n != 0 || e != api.ErrArg {
				t.Errorf("Owner(%v, %d): got %d, %d", m, slot, n, e)
			}
			if n, e := Begin(m, slot); n != 0 || e != api.ErrArg {
				t.Errorf("Begin(%v, %d): got %d, %d", m, slot, n, e)
			}
			if is, e := Last(m, slot); is || e != api.ErrArg {
				t.Errorf("Last(%v, %d): got %v, %d", m, slot, is, e)
			}
			for _, node := range []int{-1, 0, 1, 20} {
				if n, e := Next(m, slot, node); n != 0 || e != api.ErrArg {
					t.Errorf("Next(%v, %d, %d): got %d, %d", m, slot, node, n, e)
				}
			}
		}
		for _, n := range about(0, 100, math.MaxInt64, math.MinInt64) {
			if slot, off, e := At(m, n); slot != 0 || off != 0 || e != api.ErrArg {
				t.Errorf("At(%v, %d): got %d, %d, %d", m, n, slot, off, e)
			}
			if late, in, e := Off(m, n); late != 0 || in || e != api.ErrArg {
				t.Errorf("Off(%v, %d): got %d, %v, %d", m, n, late, in, e)
			}
		}
	}
}

// P7.2

func TestAtByHand(t *testing.T) {
	for i, x := range []struct {
		tick int64
		slot uint64
		off  int64
		e    api.Errno
	}{
		{0, 0, 0, api.OK},
		{99, 0, 99, api.OK},
		{100, 1, 0, api.OK},
		{654, 6, 54, api.OK},
		{429496729599, 4294967295, 99, api.OK},
		{429496729600, 4294967296, 0, api.OK},
		{429496729699, 4294967296, 99, api.OK},
		{429496729700, 0, 0, api.ErrOver},
		{math.MaxInt64, 0, 0, api.ErrOver},
		{-1, 0, 0, api.ErrArg},
		{-100, 0, 0, api.ErrArg},
		{math.MinInt64, 0, 0, api.ErrArg},
	} {
		if slot, off, e := At(four, x.tick); slot != x.slot || off != x.off || e != x.e {
			t.Errorf("%d: At(%d): got %d, %d, %d", i, x.tick, slot, off, e)
		}
	}
}

// compareAt asks that a tick be in its slot: not ahead of its beginning, nor at the next one's.
func compareAt(t *testing.T, m api.Medl, tick int64) {
	t.Helper()
	slot, off, e := At(m, tick)
	want := api.OK
	end := new(big.Int).Mul(big.NewInt(maxSlots+1), big.NewInt(m.Slot))
	if tick < 0 {
		want = api.ErrArg
	} else if big.NewInt(tick).Cmp(end) >= 0 {
		want = api.ErrOver
	}
	if e != want || e != api.OK && (slot != 0 || off != 0) {
		t.Errorf("At(%v, %d): got %d, %d, %d", m, tick, slot, off, e)
		return
	}
	if e != api.OK {
		return
	}
	begin := new(big.Int).Mul(new(big.Int).SetUint64(slot), big.NewInt(m.Slot))
	if off < 0 || off >= m.Slot || slot > maxSlots || begin.Add(begin, big.NewInt(off)).Cmp(big.NewInt(tick)) != 0 {
		t.Errorf("At(%v, %d): got %d, %d, %d", m, tick, slot, off, e)
	}
}

func TestAtAtTheEdges(t *testing.T) {
	for _, m := range good() {
		for _, tick := range about(0, 1<<20, 1<<36, 1<<52, 1<<53, math.MaxInt64, math.MinInt64,
			m.Slot, 2*m.Slot, int64(m.Nodes)*m.Slot, maxSlots*m.Slot, (maxSlots+1)*m.Slot, (maxSlots+2)*m.Slot) {
			compareAt(t, m, tick)
		}
	}
}

func TestAtOfDrawn(t *testing.T) {
	for l := drawn.Numbers(6*5000, 7); len(l) > 0; l = l[6:] {
		compareAt(t, drawnMedl(l), int64(l[5]))
	}
}

func TestOffByHand(t *testing.T) {
	tight := api.Medl{Nodes: 2, Slot: 16, Lead: 1, Frame: 13, Window: 1}
	for i, x := range []struct {
		m    api.Medl
		at   int64
		late int64
		in   bool
		e    api.Errno
	}{
		{four, 20, 0, true, api.OK},
		{four, 10, -10, true, api.OK},
		{four, 9, -11, false, api.OK},
		{four, 30, 10, true, api.OK},
		{four, 31, 11, false, api.OK},
		{four, 0, -20, false, api.OK},
		{four, -5, -25, false, api.OK},
		{four, 1000, 980, false, api.OK},
		{tight, 0, -1, true, api.OK},
		{tight, -1, -2, false, api.OK},
		{tight, 2, 1, true, api.OK},
		{tight, 3, 2, false, api.OK},
		{four, math.MaxInt64, math.MaxInt64 - 20, false, api.OK},
		{four, math.MinInt64 + 21, math.MinInt64 + 1, false, api.OK},
		{four, math.MinInt64 + 20, math.MinInt64, false, api.OK},
		{four, math.MinInt64 + 19, 0, false, api.ErrOver},
		{four, math.MinInt64, 0, false, api.ErrOver},
		{tight, math.MinInt64 + 1, math.MinInt64, false, api.OK},
		{tight, math.MinInt64, 0, false, api.ErrOver},
	} {
		if late, in, e := Off(x.m, x.at); late != x.late || in != x.in || e != x.e {
			t.Errorf("%d: Off(%v, %d): got %d, %v, %d", i, x.m, x.at, late, in, e)
		}
	}
}

// compareOff holds Off against numbers without end.
func compareOff(t *testing.T, m api.Medl, at int64) {
	t.Helper()
	late, in, e := Off(m, at)
	want := new(big.Int).Sub(big.NewInt(at), big.NewInt(m.Lead))
	if !want.IsInt64() {
		if late != 0 || in || e != api.ErrOver {
			t.Errorf("Off(%v, %d): got %d, %v, %d", m, at, late, in, e)
		}
		return
	}
	inside := want.CmpAbs(big.NewInt(m.Window)) <= 0
	if late != want.Int64() || in != inside || e != api.OK {
		t.Errorf("Off(%v, %d): got %d, %v, %d", m, at, late, in, e)
	}
}

func TestOffAtTheEdges(t *testing.T) {
	for _, m := range good() {
		for _, at := range about(0, m.Lead, m.Lead-m.Window, m.Lead+m.Window, m.Lead+m.Frame, m.Slot, -m.Slot, -m.Lead, -m.Window,
			math.MaxInt64, math.MinInt64, math.MinInt64+m.Lead, math.MinInt64+m.Window, math.MinInt64+m.Lead+m.Window) {
			compareOff(t, m, at)
		}
	}
}

func TestOffOfDrawn(t *testing.T) {
	for l := drawn.Numbers(6*5000, 7); len(l) > 0; l = l[6:] {
		m := drawnMedl(l)
		compareOff(t, m, int64(l[5]%uint64(2*m.Slot))-m.Slot/2)
	}
}

func TestNextByHand(t *testing.T) {
	three := api.Medl{Nodes: 3, Slot: 100, Lead: 20, Frame: 30, Window: 10}
	for i, x := range []struct {
		m    api.Medl
		slot uint64
		node int
		want uint64
		e    api.Errno
	}{
		{four, 0, 0, 4, api.OK},
		{four, 0, 1, 1, api.OK},
		{four, 0, 3, 3, api.OK},
		{four, 3, 0, 4, api.OK},
		{four, 5, 1, 9, api.OK},
		{four, 5, 0, 8, api.OK},
		{four, 4294967292, 0, 4294967296, api.OK},
		{four, 4294967292, 3, 4294967295, api.OK},
		{four, 4294967295, 0, 4294967296, api.OK},
		{four, 4294967293, 1, 0, api.ErrOver},
		{four, 4294967295, 1, 0, api.ErrOver},
		{four, 4294967296, 0, 0, api.ErrOver},
		{four, 4294967296, 1, 0, api.ErrOver},
		// Of three nodes the greatest slot is node 1's.
		{three, 4294967293, 1, 4294967296, api.OK},
		{three, 4294967294, 2, 0, api.ErrOver},
		{four, 4294967297, 0, 0, api.ErrArg},
		{four, math.MaxUint64, 0, 0, api.ErrArg},
		{four, 0, 4, 0, api.ErrArg},
		{four, 0, -1, 0, api.ErrArg},
		{four, 0, math.MaxInt, 0, api.ErrArg},
		{four, 0, math.MinInt, 0, api.ErrArg},
		{three, 0, 3, 0, api.ErrArg},
		// No such node is named ahead of a slot that goes over.
		{four, 4294967296, 4, 0, api.ErrArg},
		{four, 4294967296, -1, 0, api.ErrArg},
	} {
		if n, e := Next(x.m, x.slot, x.node); n != x.want || e != x.e {
			t.Errorf("%d: Next(%v, %d, %d): got %d, %d", i, x.m, x.slot, x.node, n, e)
		}
	}
}

// compareNext looks at the slots behind one by one.
func compareNext(t *testing.T, m api.Medl, slot uint64, node int) {
	t.Helper()
	n, e := Next(m, slot, node)
	want, f := uint64(0), api.ErrArg
	if slot <= maxSlots && node >= 0 && node < m.Nodes {
		want, f = slot+1, api.OK
		for want%uint64(m.Nodes) != uint64(node) {
			want++
		}
		if want > maxSlots {
			want, f = 0, api.ErrOver
		}
	}
	if n != want || e != f {
		t.Errorf("Next(%v, %d, %d): got %d, %d, not %d, %d", m, slot, node, n, e, want, f)
	}
}

func TestNextAtTheEdges(t *testing.T) {
	for n := minNodes; n <= maxNodes; n++ {
		m := four
		m.Nodes = n
		for _, slot := range slots() {
			for node := -2; node < maxNodes+3; node++ {
				compareNext(t, m, slot, node)
			}
			compareNext(t, m, slot, math.MaxInt)
			compareNext(t, m, slot, math.MinInt)
		}
	}
}

// P7.3

func TestOneSlotARound(t *testing.T) {
	for n := minNodes; n <= maxNodes; n++ {
		m := four
		m.Nodes = n
		for _, first := range []uint64{0, uint64(n), uint64(5 * n), (maxSlots+1)/uint64(n)*uint64(n) - uint64(n)} {
			seen := make([]int, n)
			for i := range uint64(n) {
				node, _ := Owner(m, first+i)
				seen[node]++
				if last, _ := Last(m, first+i); last != (i == uint64(n)-1) {
					t.Errorf("%d nodes, slot %d: is last %v", n, first+i, last)
				}
			}
			for node, times := range seen {
				if times != 1 {
					t.Errorf("%d nodes, from slot %d on: node %d has %d", n, first, node, times)
				}
			}
		}
	}
}

func TestNextIsARoundFurther(t *testing.T) {
	for n := minNodes; n <= maxNodes; n++ {
		m := four
		m.Nodes = n
		for slot := range uint64(3 * n) {
			node, _ := Owner(m, slot)
			if next, e := Next(m, slot, node); next != slot+uint64(n) || e != api.OK {
				t.Errorf("%d nodes: behind slot %d comes %d, %d", n, slot, next, e)
			}
		}
	}
}

func TestWithoutAGap(t *testing.T) {
	for _, m := range good() {
		for _, slot := range slots() {
			if slot > maxSlots {
				continue
			}
			begin, _ := Begin(m, slot)
			if in, off, e := At(m, begin); in != slot || off != 0 || e != api.OK {
				t.Errorf("%v: slot %d begins in %d, %d, %d", m, slot, in, off, e)
			}
			if in, off, e := At(m, begin+m.Slot-1); in != slot || off != m.Slot-1 || e != api.OK {
				t.Errorf("%v: slot %d ends in %d, %d, %d", m, slot, in, off, e)
			}
			if slot == maxSlots {
				continue
			}
			if next, e := Begin(m, slot+1); next != begin+m.Slot || e != api.OK {
				t.Errorf("%v: slot %d begins at %d, %d", m, slot+1, next, e)
			}
		}
	}
}

func TestRoundsFollow(t *testing.T) {
	for _, m := range good() {
		round, _ := Round(m)
		for k := range uint64(5) {
			if at, e := Begin(m, k*uint64(m.Nodes)); at != int64(k)*round || e != api.OK {
				t.Errorf("%v: round %d begins at %d, %d", m, k, at, e)
			}
		}
	}
}

// fits asks that a frame in its window neither begins ahead of its slot nor lasts until its end.
func fits(t *testing.T, m api.Medl, at int64) {
	t.Helper()
	if _, in, e := Off(m, at); e != api.OK || in && (at < 0 || at+m.Frame >= m.Slot) {
		t.Errorf("%v: a frame at %d is in its window: %v, %d", m, at, in, e)
	}
}

func TestFramesEndInTheirSlots(t *testing.T) {
	for slot := int64(minSlot); slot <= 20; slot++ {
		for lead := int64(1); lead < slot; lead++ {
			for frame := int64(1); frame < slot; frame++ {
				for window := int64(1); window < slot; window++ {
					m := api.Medl{Nodes: 2, Slot: slot, Lead: lead, Frame: frame, Window: window}
					if Check(m) != api.OK {
						continue
					}
					for at := -slot; at <= 2*slot; at++ {
						fits(t, m, at)
					}
				}
			}
		}
	}
	for _, m := range good() {
		for _, at := range about(0, m.Lead-m.Window, m.Lead, m.Lead+m.Window, m.Slot-m.Frame, m.Slot) {
			fits(t, m, at)
		}
	}
}
