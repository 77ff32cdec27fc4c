package purse_test

import (
	"math"
	"math/big"
	"math/rand/v2"
	"slices"
	"testing"

	"wigeon/api"
	"wigeon/purse"
)

// The functions of this file find what the chapter's words ask for in the
// plainest way, to compare the package with it.

// pairs is a purse of three players of whom each pair earns something, and all
// earn something else.
func pairs(pair, all int) []int { return []int{0, 0, 0, pair, 0, pair, pair, all} }

// has reports whether a player is in a group.
func has(g, i int) bool { return g>>i&1 == 1 }

// size returns how many players are in a group.
func size(g int) int {
	n := 0
	for i := range 10 {
		if has(g, i) {
			n++
		}
	}
	return n
}

// playersOf returns the number of players of a purse.
func playersOf(v []int) int {
	n := 0
	for 1<<n < len(v) {
		n++
	}
	return n
}

// allOrders returns all orders of n players.
func allOrders(n int) [][]int {
	if n == 0 {
		return [][]int{nil}
	}
	var l [][]int
	for _, order := range allOrders(n - 1) {
		for at := range n {
			l = append(l, slices.Insert(slices.Clone(order), at, n-1))
		}
	}
	return l
}

// allPurses calls a function with all purses of n players with values up to a
// greatest one.
func allPurses(n, most int, each func(v []int)) {
	v := make([]int, 1<<n)
	for g := 1; g < len(v); g++ {
		v[g] = -most
	}
	for {
		each(slices.Clone(v))
		g := 1
		for g < len(v) && v[g] == most {
			v[g] = -most
			g++
		}
		if g == len(v) {
			return
		}
		v[g]++
	}
}

// drawn returns a purse of n players: of any values, or of a sum of what each
// player is worth, of what each pair adds, and of a little more or less.
func drawn(r *rand.Rand, n int) []int {
	v := make([]int, 1<<n)
	most := []int{1, 3, 10, 100, 1000}[r.IntN(5)]
	if r.IntN(3) == 0 {
		for g := 1; g < len(v); g++ {
			v[g] = r.IntN(2*most+1) - most
		}
		return v
	}
	worth, pair, spread := make([]int, n), r.IntN(7)-2, r.IntN(4)
	for i := range worth {
		worth[i] = r.IntN(most/5+2) - most/10
	}
	for g := 1; g < len(v); g++ {
		for i := range n {
			if has(g, i) {
				v[g] += worth[i]
			}
		}
		v[g] += size(g) * (size(g) - 1) / 2 * pair
		v[g] += r.IntN(2*spread+1) - spread
		v[g] = min(max(v[g], -1000), 1000)
	}
	return v
}

// purses calls a function with purses of all kinds.
func purses(each func(v []int)) {
	allPurses(1, 3, each)
	allPurses(2, 3, each)
	allPurses(3, 1, each)
	for _, v := range [][]int{{0, 1000}, {0, -1000}, {0, 0, 0, 10}, {0, 1, 2, 10}, pairs(8, 12), pairs(9, 12), pairs(10, 12)} {
		each(v)
	}
	r := rand.New(rand.NewPCG(8, 1))
	for range 1500 {
		each(drawn(r, r.IntN(4)+2))
	}
	for range 60 {
		v := make([]int, 32)
		for g := 1; g < len(v); g++ {
			v[g] = 2000*r.IntN(2) - 1000
		}
		each(v)
	}
}

// notPurses are lists that are no purses.
func notPurses() [][]int {
	l := [][]int{nil, {}, {0}, {1}, {0, 0, 0}, {0, 1, 1, 1, 1}, {1, 1}, {-1, 0}, {1, 0, 0, 0}, make([]int, 31), make([]int, 33), make([]int, 64), make([]int, 1<<16)}
	for _, n := range []int{1001, -1001, 1 << 32, -1 << 32, math.MaxInt, math.MinInt} {
		last := make([]int, 32)
		last[31] = n
		l = append(l, []int{n}, []int{0, n}, []int{n, 0}, []int{0, n, 0, 0}, []int{0, 0, n, 0}, []int{0, 0, 0, n}, []int{0, n, -n, 0}, last)
	}
	return l
}

func ratOf(num, den int) *big.Rat {
	return big.NewRat(int64(num), int64(den))
}

// areRats reports whether fractions are valid ones with values.
func areRats(l []api.Rat, want []*big.Rat) bool {
	return slices.EqualFunc(l, want, func(r api.Rat, w *big.Rat) bool {
		return r == api.Rat{Num: int(w.Num().Int64()), Den: int(w.Denom().Int64())}
	})
}

func wantMarginal(v, order []int) []int {
	l := make([]int, len(order))
	for n, i := range order {
		g := 0
		for _, j := range order[:n] {
			g += 1 << j
		}
		l[i] = v[g+1<<i] - v[g]
	}
	return l
}

// wantShapley goes through all orders.
func wantShapley(v []int) []*big.Rat {
	n := playersOf(v)
	totals := make([]int, n)
	all := allOrders(n)
	for _, order := range all {
		for i, added := range wantMarginal(v, order) {
			totals[i] += added
		}
	}
	var l []*big.Rat
	for _, total := range totals {
		l = append(l, ratOf(total, len(all)))
	}
	return l
}

func wantBanzhaf(v []int) []*big.Rat {
	var l []*big.Rat
	for i := range playersOf(v) {
		total := 0
		for g := range v {
			if has(g, i) {
				total += v[g] - v[g-1<<i]
			}
		}
		l = append(l, ratOf(total, len(v)/2))
	}
	return l
}

// wantDividends takes parts away and gives them back.
func wantDividends(v []int) []int {
	d := make([]int, len(v))
	for g := range v {
		for part := range v {
			if part&g == part {
				if size(g-part)%2 == 0 {
					d[g] += v[part]
				} else {
					d[g] -= v[part]
				}
			}
		}
	}
	return d
}

// wantFromDividends adds up the dividends of all parts of each group.
func wantFromDividends(d []int) []int {
	v := make([]int, len(d))
	for g := range d {
		for part := range d {
			if part&g == part {
				v[g] += d[part]
			}
		}
	}
	return v
}

// wantInCore reports whether a pay is in the core of a purse.
func wantInCore(v []int, p api.Pay) bool {
	for g := range v {
		got := 0
		for i, num := range p.Num {
			if has(g, i) {
				got += num
			}
		}
		if got < p.Den*v[g] || g == len(v)-1 && got != p.Den*v[g] {
			return false
		}
	}
	return true
}

// wantIsBalance reports whether b is a balance of n players.
func wantIsBalance(b api.Balance, n int) bool {
	if b.Den < 1 || b.Den > 1000 || len(b.Parts) > 32 {
		return false
	}
	sums := make([]int, n)
	for _, part := range b.Parts {
		if part.Group < 1 || part.Group >= 1<<n || part.Weight < 1 || part.Weight > 1000 {
			return false
		}
		for i := range n {
			if has(part.Group, i) {
				sums[i] += part.Weight
			}
		}
	}
	return !slices.ContainsFunc(sums, func(sum int) bool { return sum != b.Den })
}

// gain returns by how much the groups of a balance earn more than the whole.
func gain(v []int, b api.Balance) *big.Rat {
	total := -b.Den * v[len(v)-1]
	for _, part := range b.Parts {
		total += part.Weight * v[part.Group]
	}
	return ratOf(total, b.Den)
}

// determinant returns the determinant of a square of numbers, by its first row.
func determinant(m [][]int) int {
	if len(m) == 0 {
		return 1
	}
	total, sign := 0, 1
	for j, n := range m[0] {
		if n != 0 {
			var minor [][]int
			for _, row := range m[1:] {
				minor = append(minor, slices.Delete(slices.Clone(row), j, j+1))
			}
			total += sign * n * determinant(minor)
		}
		sign = -sign
	}
	return total
}

// smallBalances returns the balances of n players, without the whole, whose
// groups are independent: all others are means of them and of the whole. They
// are found by Cramer's rule for all choices of n groups.
func smallBalances(n int) []api.Balance {
	var l []api.Balance
	seen := map[string]bool{}
	var choose func(groups []int, next int)
	choose = func(groups []int, next int) {
		if len(groups) < n {
			for g := next; g < 1<<n-1; g++ {
				choose(append(slices.Clone(groups), g), g+1)
			}
			return
		}
		b, found := balanceOf(groups)
		// Independent groups have one balance at most, so that they are a key.
		key := ""
		for _, part := range b.Parts {
			key += string(rune(part.Group))
		}
		if found && !seen[key] {
			seen[key] = true
			l = append(l, b)
		}
	}
	choose(nil, 1)
	return l
}

// balanceOf returns the balance of independent groups, as many as players.
func balanceOf(groups []int) (api.Balance, bool) {
	square := func(ones int) [][]int {
		var m [][]int
		for k, g := range groups {
			var row []int
			for i := range groups {
				if k == ones || has(g, i) {
					row = append(row, 1)
				} else {
					row = append(row, 0)
				}
			}
			m = append(m, row)
		}
		return m
	}
	den := determinant(square(-1))
	sign := 1
	if den < 0 {
		sign = -1
	}
	b := api.Balance{Den: den * sign}
	for k, g := range groups {
		weight := sign * determinant(square(k))
		if den == 0 || weight < 0 {
			return api.Balance{}, false
		}
		if weight > 0 {
			b.Parts = append(b.Parts, api.Part{Group: g, Weight: weight})
		}
	}
	return b, true
}

// answer is what a function returned: its error, and whether all else was the
// zero value.
type answer struct {
	name string
	e    api.Errno
	zero bool
}

// answers calls all functions with a purse, and those with an order, too.
func answers(v, order []int) []answer {
	var l []answer
	add := func(name string, zero bool, e api.Errno) {
		l = append(l, answer{name, e, zero})
	}
	add("Validate", true, purse.Validate(v))
	n, e := purse.Players(v)
	add("Players", n == 0, e)
	rats, e := purse.Shapley(v)
	add("Shapley", len(rats) == 0, e)
	rats, e = purse.Banzhaf(v)
	add("Banzhaf", len(rats) == 0, e)
	numbers, e := purse.Dividends(v)
	add("Dividends", len(numbers) == 0, e)
	numbers, e = purse.Add(v, v)
	add("Add", len(numbers) == 0, e)
	numbers, e = purse.Dual(v)
	add("Dual", len(numbers) == 0, e)
	super, e := purse.IsSuper(v)
	add("IsSuper", !super, e)
	convex, e := purse.IsConvex(v)
	add("IsConvex", !convex, e)
	pay, found, e := purse.Core(v)
	add("Core", pay.Den == 0 && len(pay.Num) == 0 && !found, e)
	balance, found, e := purse.Against(v)
	add("Against", balance.Den == 0 && len(balance.Parts) == 0 && !found, e)
	for _, p := range []api.Pay{{}, {Den: 1}, {Den: 1, Num: []int{0}}, {Den: 1, Num: []int{0, 0}}} {
		add("CheckCore", true, purse.CheckCore(v, p))
		g, excess, e := purse.Excess(v, p)
		add("Excess", g == 0 && excess == 0, e)
	}
	for _, b := range []api.Balance{{}, {Den: 1, Parts: []api.Part{{Group: 1, Weight: 1}}}} {
		add("CheckBalance", true, purse.CheckBalance(v, b))
	}
	return append(l, ordered(v, order)...)
}

// ordered calls the functions with a purse and an order.
func ordered(v, order []int) []answer {
	a, e := purse.Marginal(v, order)
	b, f := purse.Permute(v, order)
	return []answer{{"Marginal", e, len(a) == 0}, {"Permute", f, len(b) == 0}}
}

// wantErrors tests that answers are an error, and nothing beside it.
func wantErrors(t *testing.T, l []answer, want api.Errno, about ...any) {
	t.Helper()
	for _, a := range l {
		if a.e != want || !a.zero {
			t.Errorf("%s of %v: %d, alone: %t, want %d", a.name, about, a.e, a.zero, want)
		}
	}
}
