package flyway

import (
	"slices"

	"wigeon/api"
)

// Classes returns the greatest sets of places that all lead to each other.
func Classes(c [][]int) ([][]int, api.Errno) {
	if e := Validate(c); e != api.OK {
		return nil, e
	}
	var l [][]int
	for i := range c {
		// A class is listed when its first place comes.
		if class := chain(c).class(i); class[0] == i {
			l = append(l, class)
		}
	}
	return l, api.OK
}

// IsWhole reports whether all places of a chain lead to each other.
func IsWhole(c [][]int) (bool, api.Errno) {
	if e := Validate(c); e != api.OK {
		return false, e
	}
	return chain(c).isWhole(), api.OK
}

// Still returns which part of the time is spent at each place in the long run.
func Still(c [][]int) ([]api.Rat, api.Errno) {
	if e := checkWhole(c); e != api.OK {
		return nil, e
	}
	return chain(c).still(), api.OK
}

// Return returns the average number of steps from a place back to it.
func Return(c [][]int, i int) (api.Rat, api.Errno) {
	if e := checkWhole(c, i); e != api.OK {
		return api.Rat{}, e
	}
	// One is there once in so many steps.
	part := chain(c).still()[i]
	return api.Rat{Num: part.Den, Den: part.Num}, api.OK
}

// Rhythm returns the greatest common divisor of the lengths of all ways from a
// place back to it.
func Rhythm(c [][]int) (int, api.Errno) {
	if e := checkWhole(c); e != api.OK {
		return 0, e
	}
	return chain(c).rhythm(), api.OK
}

// checkWhole returns the first error of a chain that is to be whole, and of what
// are to be places of it.
func checkWhole(c [][]int, places ...int) api.Errno {
	if e := check(c, places...); e != api.OK {
		return e
	}
	if !chain(c).isWhole() {
		return api.ErrState
	}
	return api.OK
}

// class returns the class of the place i.
func (c chain) class(i int) []int {
	var set []int
	for _, j := range c.leads(i) {
		if slices.Contains(c.leads(j), i) {
			set = append(set, j)
		}
	}
	return set
}

func (c chain) isWhole() bool {
	return len(c.class(0)) == len(c)
}

// still returns the parts of the time. The unknown numbers of the equations are
// these parts, each divided by the sum of the row, so that all factors are
// integers.
func (c chain) still() []api.Rat {
	count := len(c)
	l := make([]equation, count)
	for j := range l {
		l[j] = make(equation, count+1)
	}
	// What leaves a place is what comes to it.
	for i := range c {
		for j, weight := range c.passages(i) {
			l[i][i] += weight
			l[j][i] -= weight
		}
	}
	// The last of these equations follows from the others. In its stead, the parts
	// add up to 1.
	for i := range c {
		l[count-1][i] = c.sum(i)
	}
	l[count-1][count] = 1
	parts := solve(l)
	for i, r := range parts {
		parts[i] = fraction(r.Num*c.sum(i), r.Den)
	}
	return parts
}

// rhythm returns the rhythm of a whole chain. The detour of a passage is how much
// later than necessary one comes over it from the place 0 to where it leads. On
// a way back to where it starts, the detours add up to its length; and each
// detour is the difference of the lengths of two such ways.
func (c chain) rhythm() int {
	steps := c.steps(0)
	d := 0
	for i := range c {
		for j := range c.passages(i) {
			detour := steps[i] + 1 - steps[j]
			d = divisor(d, detour)
		}
	}
	return d
}
