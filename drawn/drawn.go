// Package drawn has numbers for tests that look mixed, and are the same ones each time.
package drawn

// A factor and what is added, of which each number of 64 bits comes just once in a row
// that goes on.
const (
	factor = 6364136223846793005
	more   = 1442695040888963407
)

// low is how many of the lowest bits are left out: they come round too soon.
const low = 11

// Numbers is a row of so many numbers of 53 bits; which row it is, from tells.
func Numbers(many int, from uint64) []uint64 {
	l, x := make([]uint64, max(many, 0)), from
	for i := range l {
		x = x*factor + more
		l[i] = x >> low
	}
	return l
}
