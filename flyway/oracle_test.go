package flyway_test

import (
	"math"
	"math/big"
	"math/rand/v2"
	"slices"
	"testing"

	"wigeon/api"
	"wigeon/flyway"
)

// The functions of this file find what the chapter's words ask for in the
// plainest way, to compare the package with it.

// notPlaces are numbers that are no places of any chain.
var notPlaces = []int{-1, -2, 5, 6, 1 << 32, -1 << 32, math.MaxInt, math.MinInt}

// line, fork and ring are the chains of the chapter's examples; walk leads from
// its inner places to an end at either side; trap has a place that is not sure.
func line() [][]int { return [][]int{{1, 1, 0}, {0, 1, 1}, {0, 0, 1}} }
func fork() [][]int { return [][]int{{0, 1, 1}, {0, 1, 0}, {0, 0, 1}} }
func ring() [][]int { return [][]int{{0, 1}, {1, 0}} }
func walk() [][]int { return [][]int{{1, 0, 0, 0}, {1, 0, 2, 0}, {0, 1, 0, 2}, {0, 0, 0, 3}} }
func trap() [][]int {
	return [][]int{{0, 1, 1, 0, 0}, {0, 2, 0, 0, 0}, {0, 0, 0, 1, 0}, {0, 0, 1, 0, 0}, {1, 3, 0, 0, 0}}
}

func copyOf(c [][]int) [][]int {
	var rows [][]int
	for _, row := range c {
		rows = append(rows, slices.Clone(row))
	}
	return rows
}

func areEqual(a, b [][]int) bool {
	return slices.EqualFunc(a, b, slices.Equal[[]int])
}

// allChains calls a function with all chains of so many places with weights up
// to a greatest one.
func allChains(places, most int, each func(c [][]int)) {
	numbers := make([]int, places*places)
	for {
		var c [][]int
		for row := range slices.Chunk(numbers, places) {
			c = append(c, slices.Clone(row))
		}
		if wantValid(c) == api.OK {
			each(c)
		}
		i := 0
		for i < len(numbers) && numbers[i] == most {
			numbers[i] = 0
			i++
		}
		if i == len(numbers) {
			return
		}
		numbers[i]++
	}
}

// smallChains calls a function with all chains of one or two places, and all of
// three places with weights of at most 1.
func smallChains(each func(c [][]int)) {
	allChains(1, 3, each)
	allChains(2, 3, each)
	allChains(3, 1, each)
}

// someChains calls a function with so many chains that are drawn, of three to
// five places: some with few passages, some with many, with more or fewer ends.
func someChains(times int, each func(c [][]int)) {
	r := rand.New(rand.NewPCG(7, 1))
	for range times {
		places := r.IntN(3) + 3
		passages, ends := r.IntN(10)+1, r.IntN(5)
		c := make([][]int, places)
		for i := range c {
			c[i] = make([]int, places)
			for j := range c[i] {
				if r.IntN(10) < passages {
					c[i][j] = r.IntN(4)
				}
			}
			if r.IntN(10) < ends || slices.Max(c[i]) == 0 {
				clear(c[i])
				c[i][(i+r.IntN(places)*r.IntN(2))%places] = r.IntN(3) + 1
			}
		}
		each(c)
	}
}

// greatChains calls a function with chains whose sums of rows have as few common
// divisors, and are as great, as possible.
func greatChains(each func(c [][]int)) {
	rows := [][]int{{3, 3, 3, 3, 3}, {3, 3, 3, 3, 2}, {3, 3, 3, 2, 2}, {3, 3, 2, 2, 1}, {3, 2, 2, 2, 2}, {1, 2, 3, 3, 3}, {2, 3, 3, 3, 3}, {1, 3, 3, 3, 3}}
	r := rand.New(rand.NewPCG(7, 2))
	for range 300 {
		var c [][]int
		for i := range 5 {
			row := slices.Clone(rows[r.IntN(len(rows))])
			r.Shuffle(len(row), func(a, b int) { row[a], row[b] = row[b], row[a] })
			if i > 0 && r.IntN(4) == 0 {
				clear(row)
				row[i] = 1
			}
			c = append(c, row)
		}
		each(c)
	}
}

// chains calls a function with chains of all kinds.
func chains(each func(c [][]int)) {
	smallChains(each)
	someChains(1500, each)
	greatChains(each)
	for _, c := range [][][]int{line(), fork(), ring(), walk(), trap()} {
		each(c)
	}
}

func wantValid(c [][]int) api.Errno {
	if len(c) < 1 || len(c) > 5 {
		return api.ErrLarge
	}
	for _, row := range c {
		if len(row) != len(c) || slices.Min(row) < 0 || slices.Max(row) > 3 || slices.Max(row) == 0 {
			return api.ErrArg
		}
	}
	return api.OK
}

func sumOf(l []int) int {
	n := 0
	for _, k := range l {
		n += k
	}
	return n
}

func ratOf(num, den int) *big.Rat {
	return big.NewRat(int64(num), int64(den))
}

// isRat reports whether a result is a valid fraction with a value.
func isRat(r api.Rat, want *big.Rat) bool {
	return want.Num().IsInt64() && want.Denom().IsInt64() && r == api.Rat{Num: int(want.Num().Int64()), Den: int(want.Denom().Int64())}
}

// wantChance adds up the chances of all ways of so many steps.
func wantChance(c [][]int, i, j, steps int) *big.Rat {
	total := new(big.Rat)
	if steps == 0 {
		if i == j {
			total.SetInt64(1)
		}
		return total
	}
	for k, weight := range c[i] {
		if weight > 0 {
			total.Add(total, new(big.Rat).Mul(ratOf(weight, sumOf(c[i])), wantChance(c, k, j, steps-1)))
		}
	}
	return total
}

// wantLeads returns which places lead to which, by joining ways.
func wantLeads(c [][]int) [][]bool {
	leads := make([][]bool, len(c))
	for i := range c {
		leads[i] = make([]bool, len(c))
		for j := range c {
			leads[i][j] = i == j || c[i][j] > 0
		}
	}
	for k := range c {
		for i := range c {
			for j := range c {
				leads[i][j] = leads[i][j] || leads[i][k] && leads[k][j]
			}
		}
	}
	return leads
}

func wantIsEnd(c [][]int, i int) bool {
	for j, weight := range c[i] {
		if i != j && weight > 0 {
			return false
		}
	}
	return true
}

func wantEnds(c [][]int) []int {
	var l []int
	for i := range c {
		if wantIsEnd(c, i) {
			l = append(l, i)
		}
	}
	return l
}

func wantIsSure(c [][]int, i int) bool {
	leads := wantLeads(c)
	for j := range c {
		some := false
		for k := range c {
			some = some || leads[j][k] && wantIsEnd(c, k)
		}
		if leads[i][j] && !some {
			return false
		}
	}
	return true
}

func wantAllSure(c [][]int) bool {
	for i := range c {
		if !wantIsSure(c, i) {
			return false
		}
	}
	return true
}

func wantIsWhole(c [][]int) bool {
	for _, row := range wantLeads(c) {
		if slices.Contains(row, false) {
			return false
		}
	}
	return true
}

// forest is the sum of the weights of all forests with given roots: choices of a
// passage of each other place by which one comes to a root from everywhere. The
// weight of a forest is the product of its passages. from has, for each place
// and each root, the weights of those forests that lead from the place to it.
type forest struct {
	all  int
	from [][]int
}

// forestOf finds all forests. The solutions of the equations of a chain are
// quotients of such weights (the theorem of the trees of chains).
func forestOf(c [][]int, places, roots []int) forest {
	f := forest{from: make([][]int, len(c))}
	for i := range c {
		f.from[i] = make([]int, len(c))
	}
	next := make([]int, len(c))
	var choose func(n, weight int)
	choose = func(n, weight int) {
		if n < len(places) {
			i := places[n]
			if slices.Contains(roots, i) {
				choose(n+1, weight)
				return
			}
			for j, w := range c[i] {
				if w > 0 {
					next[i] = j
					choose(n+1, weight*w)
				}
			}
			return
		}
		at := make([]int, len(c))
		for _, i := range places {
			at[i] = i
			for range c {
				if !slices.Contains(roots, at[i]) {
					at[i] = next[at[i]]
				}
			}
			if !slices.Contains(roots, at[i]) {
				return
			}
		}
		f.all += weight
		for _, i := range places {
			f.from[i][at[i]] += weight
		}
	}
	choose(0, 1)
	return f
}

// surePlaces returns the places from which one always comes to an end.
func surePlaces(c [][]int) []int {
	var l []int
	for i := range c {
		if wantIsSure(c, i) {
			l = append(l, i)
		}
	}
	return l
}

// wantEndChances returns the chances to end, for all sure places.
func wantEndChances(c [][]int) [][]*big.Rat {
	sure := surePlaces(c)
	f := forestOf(c, sure, wantEnds(c))
	l := make([][]*big.Rat, len(c))
	for _, i := range sure {
		for j := range c {
			l[i] = append(l[i], ratOf(f.from[i][j], f.all))
		}
	}
	return l
}

// wantVisits returns the visits at all places that are no ends, for all sure
// places.
func wantVisits(c [][]int) [][]*big.Rat {
	sure := surePlaces(c)
	l := make([][]*big.Rat, len(c))
	for i := range c {
		l[i] = make([]*big.Rat, len(c))
		for j := range c {
			l[i][j] = new(big.Rat)
		}
	}
	ends := wantEnds(c)
	all := forestOf(c, sure, ends).all
	for _, j := range sure {
		if wantIsEnd(c, j) {
			continue
		}
		f := forestOf(c, sure, append(slices.Clone(ends), j))
		for _, i := range sure {
			l[i][j] = ratOf(sumOf(c[j])*f.from[i][j], all)
		}
	}
	return l
}

// wantStill returns the parts of the time for a chain that is whole.
func wantStill(c [][]int) []*big.Rat {
	var places, parts []int
	for i := range c {
		places = append(places, i)
	}
	for i := range c {
		parts = append(parts, sumOf(c[i])*forestOf(c, places, []int{i}).all)
	}
	var l []*big.Rat
	for _, part := range parts {
		l = append(l, ratOf(part, sumOf(parts)))
	}
	return l
}

// wantRhythm tries all lengths up to one that is more than enough.
func wantRhythm(c [][]int, i int) int {
	rhythm := 0
	at := []int{i}
	for length := 1; length <= 60; length++ {
		var then []int
		for j := range c {
			if slices.ContainsFunc(at, func(k int) bool { return c[k][j] > 0 }) {
				then = append(then, j)
			}
		}
		at = then
		if slices.Contains(at, i) {
			rhythm = int(new(big.Int).GCD(nil, nil, big.NewInt(int64(rhythm)), big.NewInt(int64(length))).Int64())
		}
	}
	return rhythm
}

// wantClasses tries all sets of places.
func wantClasses(c [][]int) [][]int {
	leads := wantLeads(c)
	isClass := func(set int) bool {
		for i := range c {
			for j := range c {
				if set>>i&1 == 1 && set>>j&1 == 1 && !leads[i][j] {
					return false
				}
			}
		}
		return set > 0
	}
	var l [][]int
	for set := range 1 << len(c) {
		greatest := isClass(set)
		for i := range c {
			if set>>i&1 == 0 && isClass(set|1<<i) {
				greatest = false
			}
		}
		if greatest {
			var class []int
			for i := range c {
				if set>>i&1 == 1 {
					class = append(class, i)
				}
			}
			l = append(l, class)
		}
	}
	slices.SortFunc(l, slices.Compare[[]int])
	return l
}

// answer is what a function returned: its error, and whether all else was the
// zero value. places is how many places it was asked about.
type answer struct {
	name   string
	places int
	e      api.Errno
	zero   bool
}

// answers calls all functions with a chain, the place i, and where there is a
// second one, j; Chance, too, with a wrong number of steps, and CheckEnds with a
// wrong table.
func answers(c [][]int, i, j int) []answer {
	var l []answer
	add := func(name string, places int, zero bool, e api.Errno) {
		l = append(l, answer{name, places, e, zero})
	}
	addRat := func(name string, places int, r api.Rat, e api.Errno) {
		add(name, places, r == api.Rat{}, e)
	}
	ends, e := flyway.Ends(c)
	add("Ends", 0, len(ends) == 0, e)
	add("CheckEnds", 0, true, flyway.CheckEnds(c, api.Table{}))
	table, e := flyway.EndTable(c)
	add("EndTable", 0, table.Den == 0 && len(table.Num) == 0, e)
	classes, e := flyway.Classes(c)
	add("Classes", 0, len(classes) == 0, e)
	whole, e := flyway.IsWhole(c)
	add("IsWhole", 0, !whole, e)
	still, e := flyway.Still(c)
	add("Still", 0, len(still) == 0, e)
	rhythm, e := flyway.Rhythm(c)
	add("Rhythm", 0, rhythm == 0, e)
	leads, e := flyway.Leads(c, i)
	add("Leads", 1, len(leads) == 0, e)
	sure, e := flyway.IsSure(c, i)
	add("IsSure", 1, !sure, e)
	time, e := flyway.Time(c, i)
	addRat("Time", 1, time, e)
	back, e := flyway.Return(c, i)
	addRat("Return", 1, back, e)
	rest, e := flyway.Without(c, i)
	add("Without", 1, len(rest) == 0, e)
	passage, e := flyway.Passage(c, i, j)
	addRat("Passage", 2, passage, e)
	chance, e := flyway.Chance(c, i, j, 2)
	addRat("Chance", 2, chance, e)
	chance, e = flyway.Chance(c, i, j, 4)
	addRat("Chance of wrong steps", 2, chance, e)
	end, e := flyway.EndChance(c, i, j)
	addRat("EndChance", 2, end, e)
	visits, e := flyway.Visits(c, i, j)
	addRat("Visits", 2, visits, e)
	return l
}

// wantErrors tests that the functions with at least so many places return an
// error, and nothing beside it.
func wantErrors(t *testing.T, c [][]int, i, j, places int, want api.Errno) {
	t.Helper()
	for _, a := range answers(c, i, j) {
		if a.places >= places && (a.e != want || !a.zero) {
			t.Errorf("%s of %d rows, %v, places %d, %d: %d, alone: %t, want %d", a.name, len(c), c[:min(len(c), 7)], i, j, a.e, a.zero, want)
		}
	}
}
