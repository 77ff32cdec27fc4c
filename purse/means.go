package purse

import (
	"math/bits"

	"wigeon/api"
)

// Shapley returns the mean, over all orders, of what each player adds to those
// before it.
func Shapley(v []int) ([]api.Rat, api.Errno) {
	// In so many orders, just the players of one group are before a player.
	return means(v, func(before, after int) int { return orders(before) * orders(after) })
}

// Banzhaf returns the mean, over all groups without each player, of what it adds
// to them.
func Banzhaf(v []int) ([]api.Rat, api.Errno) {
	return means(v, func(before, after int) int { return 1 })
}

// means returns the mean of what each player adds to the groups without it, each
// of which has a weight: that of the numbers of players in it and outside.
func means(v []int, weight func(before, after int) int) ([]api.Rat, api.Errno) {
	if e := Validate(v); e != api.OK {
		return nil, e
	}
	l := make([]api.Rat, players(v))
	for i := range l {
		p := player(i)
		total, weights := 0, 0
		for g := range v {
			if p.isIn(g) {
				continue
			}
			before := bits.OnesCount(uint(g))
			w := weight(before, len(l)-1-before)
			total += w * (v[g|p.alone()] - v[g])
			weights += w
		}
		l[i] = fraction(total, weights)
	}
	return l, api.OK
}

// orders returns how many orders of n players there are.
func orders(n int) int {
	product := 1
	for i := range n {
		product *= i + 1
	}
	return product
}

// fraction returns num / den, for a den above 0.
func fraction(num, den int) api.Rat {
	d := divisor(num, den)
	return api.Rat{Num: num / d, Den: den / d}
}

// divisor returns the greatest common divisor, which is not negative.
func divisor(a, b int) int {
	for b != 0 {
		a, b = b, a%b
	}
	return max(a, -a)
}
