package whistle

import (
	"cmp"
	"slices"

	"wigeon/api"
)

// group is signals, by their numbers, and how often all of them are used.
type group struct {
	signals []int
	weight  int
}

// Cost returns how many notes are whistled with a code whose signals are used as
// often as weights say.
func Cost(weights []int, code []string) (int, api.Errno) {
	if e := Validate(code); e != api.OK {
		return 0, e
	}
	if !areWeights(weights) || len(weights) != len(code) {
		return 0, api.ErrArg
	}
	cost := 0
	for i, signal := range code {
		cost += weights[i] * len(signal)
	}
	return cost, api.OK
}

// Cheapest returns the lengths of signals with the smallest cost that a safe
// code can have for weights, and this cost.
func Cheapest(weights []int) ([]int, int, api.Errno) {
	if !areWeights(weights) {
		return nil, 0, api.ErrArg
	}
	// With one signal nothing is to be joined, but it has a note all the same.
	if len(weights) == 1 {
		return []int{1}, weights[0], api.OK
	}
	lengths := make([]int, len(weights))
	cost := 0
	groups := single(weights)
	for len(groups) > 1 {
		slices.SortStableFunc(groups, func(a, b group) int {
			return cmp.Compare(a.weight, b.weight)
		})
		joined := join(groups[0], groups[1])
		groups = append(groups[2:], joined)
		// A note in front tells the two groups apart.
		for _, i := range joined.signals {
			lengths[i]++
		}
		cost += joined.weight
	}
	return lengths, cost, api.OK
}

// single returns a group for each signal.
func single(weights []int) []group {
	var groups []group
	for i, weight := range weights {
		groups = append(groups, group{[]int{i}, weight})
	}
	return groups
}

func join(a, b group) group {
	return group{slices.Concat(a.signals, b.signals), a.weight + b.weight}
}

func areWeights(weights []int) bool {
	if len(weights) == 0 || len(weights) > api.MaxSignals {
		return false
	}
	for _, weight := range weights {
		if weight < 0 || weight > api.MaxWeight {
			return false
		}
	}
	return true
}
