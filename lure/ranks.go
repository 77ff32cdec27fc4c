package lure

import "wigeon/api"

// unranked stands for the rank of a place that has none.
const unranked = -1

// Before returns the places from which the man can force that the next place
// is one of a set.
func Before(g api.Game, set []int) ([]int, api.Errno) {
	if e := check(g, set); e != api.OK {
		return nil, e
	}
	return forced(g, ownerMan, gather(set)).list(), api.OK
}

// Ranks returns the ranks of all places.
func Ranks(g api.Game, goal []int) ([]int, api.Errno) {
	if e := check(g, goal); e != api.OK {
		return nil, e
	}
	return ranksOf(g, gather(goal)), api.OK
}

// Wins returns the places from which the man wins.
func Wins(g api.Game, goal []int) ([]int, api.Errno) {
	if e := check(g, goal); e != api.OK {
		return nil, e
	}
	return wins(g, gather(goal)).list(), api.OK
}

// Within returns the places with a rank of at most moves.
func Within(g api.Game, goal []int, moves int) ([]int, api.Errno) {
	if e := check(g, goal); e != api.OK {
		return nil, e
	}
	if !isMoves(moves) {
		return nil, api.ErrArg
	}
	return numbered(ranksOf(g, gather(goal)), moves).list(), api.OK
}

// Free returns the places on which the ducks keep free.
func Free(g api.Game, goal []int) ([]int, api.Errno) {
	if e := check(g, goal); e != api.OK {
		return nil, e
	}
	return (every(g) &^ wins(g, gather(goal))).list(), api.OK
}

// CheckRanks returns api.OK if numbers of the places prove wins.
func CheckRanks(g api.Game, goal, ranks []int) api.Errno {
	if e := check(g, goal); e != api.OK {
		return e
	}
	if !areRanks(g, ranks) {
		return api.ErrArg
	}
	ends := gather(goal)
	for p, r := range ranks {
		if r == 0 && !ends.has(p) {
			return api.ErrProof
		}
		if r > 0 && !forced(g, ownerMan, numbered(ranks, r-1)).has(p) {
			return api.ErrProof
		}
	}
	return api.OK
}

// CheckTrap returns api.OK if a set of places is a trap.
func CheckTrap(g api.Game, goal, trap []int) api.Errno {
	if e := check(g, goal, trap); e != api.OK {
		return e
	}
	held := gather(trap)
	if held.meets(gather(goal)) || !held.liesIn(forced(g, ownerDucks, held)) {
		return api.ErrProof
	}
	return api.OK
}

// forced returns the places from which one of the two can force that the next
// place is in a set: a single move is enough where they move themselves, all
// moves are needed where the other moves.
func forced(g api.Game, by int, set places) places {
	var from places
	for p, owner := range g.Owner {
		moves := gather(g.Moves[p])
		if owner == by && moves.meets(set) || owner != by && moves.liesIn(set) {
			from |= 1 << p
		}
	}
	return from
}

// ranksOf returns the ranks of all places.
func ranksOf(g api.Game, goal places) []int {
	ranks := make([]int, len(g.Owner))
	for p := range ranks {
		ranks[p] = unranked
	}
	rank, reached := 0, places(0)
	grow := func(found places) {
		for _, p := range found.list() {
			ranks[p] = rank
		}
		reached |= found
		rank++
	}
	// What is forced from all ranks given so far, and was not from the smaller
	// ones, has the next rank: of the ducks' moves the greatest rank counts.
	for found := goal; found != 0; found = forced(g, ownerMan, reached) &^ reached {
		grow(found)
	}
	return ranks
}

// wins returns the places that have a rank.
func wins(g api.Game, goal places) places {
	return numbered(ranksOf(g, goal), api.MaxPlaces)
}

// numbered returns the places that have a number from 0 to most.
func numbered(ranks []int, most int) places {
	var s places
	for p, r := range ranks {
		if r >= 0 && r <= most {
			s |= 1 << p
		}
	}
	return s
}

func areRanks(g api.Game, ranks []int) bool {
	for _, r := range ranks {
		if r < unranked || r > api.MaxPlaces {
			return false
		}
	}
	return len(ranks) == len(g.Owner)
}
