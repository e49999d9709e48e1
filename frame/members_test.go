package frame

import (
	"math"
	"strconv"
	"strings"
	"testing"
)

// P8.1

// strangers are numbers that no node has: on both sides of 0 to 15, those whose low
// bits look like a node's, and those at an int's ends.
var strangers = []int{-1, -2, -15, -16, -17, -65536, 16, 17, 31, 32, 33, 63, 64, 65, 256, 257, 65536, 1 << 32, 1<<32 + 3, math.MaxInt, math.MaxInt - 15, math.MinInt, math.MinInt + 3}

// written are members as a text of 16 letters, 0 and 1, node 0's the last one.
func written(members uint16) string {
	s := strconv.FormatUint(uint64(members), 2)
	return strings.Repeat("0", 16-len(s)) + s
}

// with is a text of members with a node's letter in its place.
func with(s string, node int, letter string) string {
	return s[:15-node] + letter + s[16-node:]
}

func TestMembersByHand(t *testing.T) {
	for i, x := range []struct {
		members uint16
		node    int
		has     bool
		with    uint16
		without uint16
		count   int
	}{
		// Members 0 and 3: the chapter's example.
		{9, 0, true, 9, 8, 2},
		{9, 1, false, 11, 9, 2},
		{9, 2, false, 13, 9, 2},
		{9, 3, true, 9, 1, 2},
		{9, 15, false, 32777, 9, 2},
		{9, 16, false, 9, 9, 2},
		{9, -1, false, 9, 9, 2},
		{0, 0, false, 1, 0, 0},
		{0, 15, false, 32768, 0, 0},
		{32768, 15, true, 32768, 0, 1},
		{32768, 14, false, 49152, 32768, 1},
		{65535, 0, true, 65535, 65534, 16},
		{65535, 15, true, 65535, 32767, 16},
		{65535, 16, false, 65535, 65535, 16},
		{65535, -1, false, 65535, 65535, 16},
	} {
		if is := Has(x.members, x.node); is != x.has {
			t.Errorf("%d: Has: got %v", i, is)
		}
		if m := With(x.members, x.node); m != x.with {
			t.Errorf("%d: With: got %d", i, m)
		}
		if m := Without(x.members, x.node); m != x.without {
			t.Errorf("%d: Without: got %d", i, m)
		}
		if n := Count(x.members); n != x.count {
			t.Errorf("%d: Count: got %d", i, n)
		}
	}
}

func TestAllMembers(t *testing.T) {
	for n := range 65536 {
		m := uint16(n)
		s := written(m)
		if c := Count(m); c != strings.Count(s, "1") {
			t.Errorf("Count(%s): got %d", s, c)
		}
		for node := range 16 {
			if is := Has(m, node); is != (s[15-node] == '1') {
				t.Errorf("Has(%s, %d): got %v", s, node, is)
			}
			if l := written(With(m, node)); l != with(s, node, "1") {
				t.Errorf("With(%s, %d): got %s", s, node, l)
			}
			if l := written(Without(m, node)); l != with(s, node, "0") {
				t.Errorf("Without(%s, %d): got %s", s, node, l)
			}
		}
		for _, node := range strangers {
			if Has(m, node) || With(m, node) != m || Without(m, node) != m {
				t.Errorf("%s, %d: got %v, %d, %d", s, node, Has(m, node), With(m, node), Without(m, node))
			}
		}
	}
}
