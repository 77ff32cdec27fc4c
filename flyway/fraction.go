package flyway

import "wigeon/api"

// fraction returns num / den, for a num from 0 on and a den above 0.
func fraction(num, den int) api.Rat {
	d := divisor(num, den)
	return api.Rat{Num: num / d, Den: den / d}
}

// plus adds two fractions from 0 on.
func plus(a, b api.Rat) api.Rat {
	den := multiple(a.Den, b.Den)
	return fraction(a.Num*(den/a.Den)+b.Num*(den/b.Den), den)
}

// divisor returns the greatest common divisor, which is not negative.
func divisor(a, b int) int {
	for b != 0 {
		a, b = b, a%b
	}
	return max(a, -a)
}

// multiple returns the least common multiple of two numbers above 0.
func multiple(a, b int) int {
	return a / divisor(a, b) * b
}

// reduce divides numbers that are not all 0 by their greatest common divisor.
func reduce(l []int) {
	d := 0
	for _, n := range l {
		d = divisor(d, n)
	}
	for i := range l {
		l[i] /= d
	}
}

// oneIf returns 1 if a condition holds, and otherwise 0.
func oneIf(holds bool) int {
	if holds {
		return 1
	}
	return 0
}
