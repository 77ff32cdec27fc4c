package flyway

import "iter"

// chain is a table of weights that is valid.
type chain [][]int

// never stands for the number of steps to a place to which none lead.
const never = -1

// passages returns the places to which one can pass from i in one step, and the
// weights of these passages.
func (c chain) passages(i int) iter.Seq2[int, int] {
	return func(yield func(j, weight int) bool) {
		for j, weight := range c[i] {
			if weight > 0 && !yield(j, weight) {
				return
			}
		}
	}
}

// sum returns the sum of the row i.
func (c chain) sum(i int) int {
	total := 0
	for _, weight := range c.passages(i) {
		total += weight
	}
	return total
}

// steps returns the fewest steps in which one can come from i to each place.
func (c chain) steps(i int) []int {
	fewest := make([]int, len(c))
	for j := range fewest {
		fewest[j] = never
	}
	fewest[i] = 0
	reached := []int{i}
	for n := 0; n < len(reached); n++ {
		at := reached[n]
		for j := range c.passages(at) {
			if fewest[j] == never {
				fewest[j] = fewest[at] + 1
				reached = append(reached, j)
			}
		}
	}
	return fewest
}

// leads returns the set of the places to which i leads.
func (c chain) leads(i int) []int {
	var set []int
	for j, steps := range c.steps(i) {
		if steps != never {
			set = append(set, j)
		}
	}
	return set
}
