package count

import (
	"cmp"
	"math/bits"

	"wigeon/api"
)

// fraction returns num / den, for a num from 0 on and a den above 0.
func fraction(num, den int) api.Rat {
	d := divisor(num, den)
	return api.Rat{Num: num / d, Den: den / d}
}

// divisor returns the greatest common divisor.
func divisor(a, b int) int {
	for b != 0 {
		a, b = b, a%b
	}
	return a
}

// compareFractions compares two fractions from 0 on.
func compareFractions(a, b api.Rat) int {
	// The products of large chances do not fit into an int.
	aHigh, aLow := bits.Mul64(uint64(a.Num), uint64(b.Den))
	bHigh, bLow := bits.Mul64(uint64(b.Num), uint64(a.Den))
	return cmp.Or(cmp.Compare(aHigh, bHigh), cmp.Compare(aLow, bLow))
}

// isLevel reports whether a fraction is a level of chances.
func isLevel(r api.Rat) bool {
	return r.Den >= 1 && r.Den <= api.MaxLevel && r.Num >= 0 && r.Num <= r.Den && divisor(r.Num, r.Den) == 1
}
