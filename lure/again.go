package lure

import "wigeon/api"

// Again returns the places from which the man can force that the goal is
// visited infinitely often.
func Again(g api.Game, goal []int) ([]int, api.Errno) {
	if e := check(g, goal); e != api.OK {
		return nil, e
	}
	// A place of the goal counts only if the man can go on from it to places
	// from which there is a next visit: others are left out until none is left.
	visits := gather(goal)
	return shrink(every(g), func(again places) places {
		return wins(g, visits&forced(g, ownerMan, again))
	}).list(), api.OK
}

// Keeps returns the greatest set of places within a set that the man can keep
// to.
func Keeps(g api.Game, set []int) ([]int, api.Errno) {
	if e := check(g, set); e != api.OK {
		return nil, e
	}
	return shrink(gather(set), func(kept places) places {
		return kept & forced(g, ownerMan, kept)
	}).list(), api.OK
}

// shrink returns the set that is left when a step that only takes places away
// takes none any more.
func shrink(set places, step func(places) places) places {
	for {
		left := step(set)
		if left == set {
			return set
		}
		set = left
	}
}
