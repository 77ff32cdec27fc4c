package lure

import (
	"slices"

	"wigeon/api"
)

// noMove stands in a plan at a place for which it has none.
const noMove = -1

// Plan returns moves of the man on which the rank falls each time.
func Plan(g api.Game, goal []int) ([]int, api.Errno) {
	if e := check(g, goal); e != api.OK {
		return nil, e
	}
	ranks := ranksOf(g, gather(goal))
	return planOf(g, ownerMan, func(from, to int) bool {
		return ranks[to] != unranked && ranks[to] < ranks[from]
	}), api.OK
}

// Flee returns moves of the ducks that keep to the places without a rank.
func Flee(g api.Game, goal []int) ([]int, api.Errno) {
	if e := check(g, goal); e != api.OK {
		return nil, e
	}
	ranks := ranksOf(g, gather(goal))
	return planOf(g, ownerDucks, func(from, to int) bool {
		return ranks[from] == unranked && ranks[to] == unranked
	}), api.OK
}

// Play returns the places through which a game goes with a plan of the man and
// one of the ducks.
func Play(g api.Game, man, ducks []int, from, moves int) ([]int, api.Errno) {
	if e := Validate(g); e != api.OK {
		return nil, e
	}
	if !isPlan(g, man) || !isPlan(g, ducks) || !isPlace(g, from) || !isMoves(moves) {
		return nil, api.ErrArg
	}
	plans := [2][]int{ownerMan: man, ownerDucks: ducks}
	at := from
	way := []int{at}
	for range moves {
		at = move(g.Moves[at], plans[g.Owner[at]][at])
		way = append(way, at)
	}
	return way, api.OK
}

// planOf returns a plan with the first suitable move from each place of an
// owner, if there is one.
func planOf(g api.Game, owner int, suits func(from, to int) bool) []int {
	plan := make([]int, len(g.Owner))
	for from := range plan {
		plan[from] = noMove
		if g.Owner[from] != owner {
			continue
		}
		i := slices.IndexFunc(g.Moves[from], func(to int) bool { return suits(from, to) })
		if i >= 0 {
			plan[from] = g.Moves[from][i]
		}
	}
	return plan
}

// move returns the place that is planned if it is one of the moves, and else
// the first of them.
func move(moves []int, planned int) int {
	if slices.Contains(moves, planned) {
		return planned
	}
	return moves[0]
}

func isPlan(g api.Game, plan []int) bool {
	return len(plan) == len(g.Owner)
}
