package purse

import (
	"slices"

	"wigeon/api"
)

// Marginal returns what each player adds to the group of those before it.
func Marginal(v []int, order []int) ([]int, api.Errno) {
	if e := checkOrder(v, order); e != api.OK {
		return nil, e
	}
	added := make([]int, len(order))
	before := 0
	for _, i := range order {
		with := before | player(i).alone()
		added[i] = v[with] - v[before]
		before = with
	}
	return added, api.OK
}

// Permute returns the purse in which the player order[i] is what i was.
func Permute(v []int, order []int) ([]int, api.Errno) {
	if e := checkOrder(v, order); e != api.OK {
		return nil, e
	}
	permuted := make([]int, len(v))
	for g, value := range v {
		became := 0
		for i, now := range order {
			if player(i).isIn(g) {
				became |= player(now).alone()
			}
		}
		permuted[became] = value
	}
	return permuted, api.OK
}

// checkOrder returns the first error of a purse and of an order of its players.
func checkOrder(v []int, order []int) api.Errno {
	if e := Validate(v); e != api.OK {
		return e
	}
	if len(order) != players(v) {
		return api.ErrArg
	}
	for i := range order {
		if !slices.Contains(order, i) {
			return api.ErrArg
		}
	}
	return api.OK
}
