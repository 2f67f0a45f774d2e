// Package exact: sums, differences and products of whole numbers of 64 bits,
// and whether they are such numbers themselves.
package exact

// Sum answers a + b.
func Sum(a int, b int) (int, bool) {
	sum := a + b
	return sum, (b >= 0) == (sum >= a)
}

// Difference answers a - b.
func Difference(a int, b int) (int, bool) {
	difference := a - b
	return difference, (b >= 0) == (difference <= a)
}

// Product answers a * b.
func Product(a int, b int) (int, bool) {
	if b == -1 {
		// The least number, divided by -1, is itself, as if nothing were lost.
		return Difference(0, a)
	}
	product := a * b
	return product, b == 0 || product/b == a
}
