package purse

import (
	"slices"

	"wigeon/api"
)

// maxDividend is the greatest absolute value of a dividend.
const maxDividend = 1000000

// Dividends returns the numbers whose sums over the parts of each group are the
// values of the groups.
func Dividends(v []int) ([]int, api.Errno) {
	if e := Validate(v); e != api.OK {
		return nil, e
	}
	return addParts(v, -1), api.OK
}

// FromDividends returns the purse that has dividends.
func FromDividends(d []int) ([]int, api.Errno) {
	if !areForGroups(d, maxDividend) {
		return nil, api.ErrArg
	}
	return withinLimit(addParts(d, 1))
}

// addParts returns, for each group, the sum of the numbers of its parts, if sign
// is 1; with the sign -1, it takes such sums apart.
func addParts(l []int, sign int) []int {
	sums := slices.Clone(l)
	// After each player, the parts that lack no other players than those that have
	// been gone through are added.
	for p := range player(players(l)) {
		for g := range sums {
			if p.isIn(g) {
				sums[g] += sign * sums[g^p.alone()]
			}
		}
	}
	return sums
}
