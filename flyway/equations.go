package flyway

import "wigeon/api"

// equation has a factor for each unknown number, and then what the products of
// the factors and the unknown numbers add up to.
type equation []int

// solve returns the numbers that fit the equations, and changes the list. There
// are as many equations as numbers; the determinants of the factors of the first
// k numbers in the first k equations, for each k, must be above 0.
func solve(l []equation) []api.Rat {
	k := 0
next:
	for i := range l {
		if i != k {
			l[i] = l[i].without(k, l[k])
		}
	}
	k++
	if k < len(l) {
		goto next
	}
	numbers := make([]api.Rat, len(l))
	for i, e := range l {
		numbers[i] = fraction(e[len(l)], e[i])
	}
	return numbers
}

// without returns what an equation says after another one has been used to
// replace the number k, for which that one has a factor above 0.
func (e equation) without(k int, other equation) equation {
	left := make(equation, len(e))
	for j := range e {
		left[j] = e[j]*other[k] - other[j]*e[k]
	}
	// The numbers of a reduced equation are at most as great as determinants of the
	// given ones; without the reduction, the products would not fit into an int.
	reduce(left)
	return left
}
