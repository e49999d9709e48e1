package drawn

import (
	"math/big"
	"slices"
	"testing"
)

func TestNumbers(t *testing.T) {
	all := new(big.Int).Lsh(big.NewInt(1), 64)
	for _, from := range []uint64{0, 1, 7, 1<<64 - 1} {
		x := new(big.Int).SetUint64(from)
		for i, n := range Numbers(100, from) {
			x.Mul(x, big.NewInt(6364136223846793005))
			x.Add(x, big.NewInt(1442695040888963407))
			x.Mod(x, all)
			if want := new(big.Int).Rsh(x, 11); want.Uint64() != n {
				t.Fatalf("from %d, number %d: got %d, want %d", from, i, n, want)
			}
		}
	}
}

func TestARowIsTheSameEachTime(t *testing.T) {
	l := Numbers(50, 7)
	if !slices.Equal(l, Numbers(50, 7)) || !slices.Equal(l[:20], Numbers(20, 7)) {
		t.Error("two rows from one number are different")
	}
	if slices.Equal(l, Numbers(50, 8)) {
		t.Error("rows from two numbers are the same")
	}
}

func TestARowOfNone(t *testing.T) {
	for _, many := range []int{0, -1} {
		if l := Numbers(many, 7); len(l) != 0 {
			t.Errorf("%d: got %v", many, l)
		}
	}
}
