package exact

import (
	"math"
	"math/big"
	"testing"
)

// ends: where sums, differences and products come to the ends of 64 bits.
var ends = []int{
	math.MinInt, math.MinInt + 1, math.MinInt + 2, -1<<62 - 1, -1 << 62, -1<<62 + 1, math.MinInt / 3, -3037000500, -3037000499, -1 << 32, -1<<31 - 1, -1 << 31,
	-10, -3, -2, -1, 0, 1, 2, 3, 10,
	1<<31 - 1, 1 << 31, 1 << 32, 3037000499, 3037000500, math.MaxInt / 3, 1<<62 - 1, 1 << 62, 1<<62 + 1, math.MaxInt - 2, math.MaxInt - 1, math.MaxInt,
}

func want(t *testing.T, what string, a int, b int, got int, ok bool, exactly *big.Int) {
	t.Helper()
	if ok != exactly.IsInt64() || ok && int64(got) != exactly.Int64() {
		t.Errorf("%s(%d, %d) = %d, %v, want %v", what, a, b, got, ok, exactly)
	}
}

func TestAtTheEnds(t *testing.T) {
	for _, a := range ends {
		for _, b := range ends {
			x, y := big.NewInt(int64(a)), big.NewInt(int64(b))
			sum, isSum := Sum(a, b)
			want(t, "Sum", a, b, sum, isSum, new(big.Int).Add(x, y))
			difference, isDifference := Difference(a, b)
			want(t, "Difference", a, b, difference, isDifference, new(big.Int).Sub(x, y))
			product, isProduct := Product(a, b)
			want(t, "Product", a, b, product, isProduct, new(big.Int).Mul(x, y))
		}
	}
}
