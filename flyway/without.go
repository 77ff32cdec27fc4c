package flyway

import "wigeon/api"

// Without returns the chain of the other places, in which one passes over the
// place i without a step.
func Without(c [][]int, i int) ([][]int, api.Errno) {
	if e := check(c, i); e != api.OK {
		return nil, e
	}
	// The only place of a chain is an end.
	if chain(c).isEnd(i) {
		return nil, api.ErrState
	}
	rest := chain(c).without(i)
	// Only a weight above the limit can make it no chain.
	if e := Validate(rest); e != api.OK {
		return nil, e
	}
	return rest, api.OK
}

func (c chain) without(x int) [][]int {
	var rest [][]int
	for i := range c {
		if i != x {
			rest = append(rest, c.rowWithout(i, x))
		}
	}
	return rest
}

// rowWithout returns the weights of the row i when x is left out: what leads
// from i to x is spread over the passages that leave x.
func (c chain) rowWithout(i, x int) []int {
	leaving := c.sum(x) - c[x][x]
	var row []int
	for j := range c {
		if j != x {
			row = append(row, c[i][j]*leaving+c[i][x]*c[x][j])
		}
	}
	reduce(row)
	return row
}
