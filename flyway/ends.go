package flyway

import (
	"slices"

	"wigeon/api"
)

// Ends returns the places that one never leaves.
func Ends(c [][]int) ([]int, api.Errno) {
	if e := Validate(c); e != api.OK {
		return nil, e
	}
	var set []int
	for i := range c {
		if chain(c).isEnd(i) {
			set = append(set, i)
		}
	}
	return set, api.OK
}

// Leads returns the places to which one can come from a place.
func Leads(c [][]int, i int) ([]int, api.Errno) {
	if e := check(c, i); e != api.OK {
		return nil, e
	}
	return chain(c).leads(i), api.OK
}

// IsSure reports whether one always comes from a place to an end.
func IsSure(c [][]int, i int) (bool, api.Errno) {
	if e := check(c, i); e != api.OK {
		return false, e
	}
	return chain(c).isSure(i), api.OK
}

// EndChance returns the chance to end, from i, at the place j.
func EndChance(c [][]int, i, j int) (api.Rat, api.Errno) {
	if e := checkSure(c, i, j); e != api.OK {
		return api.Rat{}, e
	}
	return chain(c).endChances(j)[i], api.OK
}

// Time returns how many steps it takes on average from a place to an end.
func Time(c [][]int, i int) (api.Rat, api.Errno) {
	if e := checkSure(c, i); e != api.OK {
		return api.Rat{}, e
	}
	// Each time that one is at a place that is no end, a step follows.
	return chain(c).visits(func(k int) bool { return !chain(c).isEnd(k) })[i], api.OK
}

// Visits returns how often one is, from i on, at the place j on average.
func Visits(c [][]int, i, j int) (api.Rat, api.Errno) {
	if e := checkSure(c, i, j); e != api.OK {
		return api.Rat{}, e
	}
	if chain(c).isEnd(j) {
		return api.Rat{}, api.ErrState
	}
	return chain(c).visits(func(k int) bool { return k == j })[i], api.OK
}

// checkSure returns the first error of a chain, of what are to be places of it,
// and of the place i, which is to be sure.
func checkSure(c [][]int, i int, others ...int) api.Errno {
	if e := check(c, append(others, i)...); e != api.OK {
		return e
	}
	if !chain(c).isSure(i) {
		return api.ErrState
	}
	return api.OK
}

func (c chain) isEnd(i int) bool {
	for j := range c.passages(i) {
		if j != i {
			return false
		}
	}
	return true
}

func (c chain) isSure(i int) bool {
	for _, j := range c.leads(i) {
		if !slices.ContainsFunc(c.leads(j), c.isEnd) {
			return false
		}
	}
	return true
}

// endChances returns the chances to end at the place j from all sure places.
func (c chain) endChances(j int) []api.Rat {
	return c.visits(func(k int) bool { return k == j && c.isEnd(k) })
}

// visits returns, for each sure place, how often one is on average from there on
// at places that count. To come to an end and to stay there is one visit.
func (c chain) visits(counts func(k int) bool) []api.Rat {
	var l []equation
	for i := range c {
		l = append(l, c.visitsFrom(i, counts(i)))
	}
	return solve(l)
}

// visitsFrom returns the equation of the visits from i on: there is one at once
// if i counts, and on average those from where one passes to.
func (c chain) visitsFrom(i int, counts bool) equation {
	e := make(equation, len(c)+1)
	// No visits follow at an end. Nor does it matter what follows at a place that
	// is not sure, as sure ones do not lead there, but there must be a solution.
	if c.isEnd(i) || !c.isSure(i) {
		e[i] = 1
		e[len(c)] = oneIf(counts)
		return e
	}
	for j, weight := range c.passages(i) {
		e[i] += weight
		e[j] -= weight
	}
	e[len(c)] = c.sum(i) * oneIf(counts)
	return e
}
