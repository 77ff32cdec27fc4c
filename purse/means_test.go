package purse_test

import (
	"math"
	"math/big"
	"math/rand/v2"
	"slices"
	"testing"

	"wigeon/api"
	"wigeon/purse"
)

func TestMarginal(t *testing.T) {
	for _, x := range []struct{ v, order, want []int }{
		{[]int{0, 1, 2, 10}, []int{0, 1}, []int{1, 9}},
		{[]int{0, 1, 2, 10}, []int{1, 0}, []int{8, 2}},
		{[]int{0, -7}, []int{0}, []int{-7}},
		{[]int{0, 1, 10, 100, 20, 50, 300, 1000}, []int{2, 0, 1}, []int{30, 950, 20}},
		{[]int{0, 1, 10, 100, 20, 50, 300, 1000}, []int{1, 2, 0}, []int{700, 10, 290}},
		{[]int{0, 1000, 0, -1000}, []int{0, 1}, []int{1000, -2000}},
	} {
		if l, e := purse.Marginal(x.v, x.order); !slices.Equal(l, x.want) || e != api.OK {
			t.Errorf("Marginal(%v, %v): %v, %d, want %v", x.v, x.order, l, e, x.want)
		}
	}
	purses(func(v []int) {
		for _, order := range allOrders(playersOf(v)) {
			l, e := purse.Marginal(v, order)
			if !slices.Equal(l, wantMarginal(v, order)) || e != api.OK {
				t.Fatalf("Marginal(%v, %v): %v, %d", v, order, l, e)
			}
			// All that is earned is given out (the first half of S7).
			if total := sumOf(l); total != v[len(v)-1] {
				t.Fatalf("Marginal(%v, %v): %v gives out %d", v, order, l, total)
			}
		}
	})
}

func sumOf(l []int) int {
	total := 0
	for _, n := range l {
		total += n
	}
	return total
}

func TestNoOrders(t *testing.T) {
	for _, v := range [][]int{{0, 1}, {0, 1, 2, 10}, pairs(8, 12), make([]int, 16), make([]int, 32)} {
		n := playersOf(v)
		var order []int
		for i := range n {
			order = append(order, i)
		}
		wrong := [][]int{nil, {}, order[1:], order[:n-1], append(slices.Clone(order), 0), append(slices.Clone(order), n), make([]int, 100000)}
		for _, i := range []int{-1, n, n + 1, 64, 1 << 32, -1 << 32, math.MaxInt, math.MinInt} {
			for at := range n {
				l := slices.Clone(order)
				l[at] = i
				wrong = append(wrong, l)
			}
		}
		for at := range n - 1 {
			l := slices.Clone(order)
			l[at] = n - 1
			wrong = append(wrong, l)
		}
		for _, l := range wrong {
			wantErrors(t, ordered(v, l), api.ErrArg, v, l[:min(len(l), 7)])
		}
	}
}

// TestPermute tests that each group that has become another one keeps its value.
func TestPermute(t *testing.T) {
	for _, x := range []struct{ v, order, want []int }{
		{[]int{0, 1, 2, 10}, []int{1, 0}, []int{0, 2, 1, 10}},
		{[]int{0, 1, 2, 10}, []int{0, 1}, []int{0, 1, 2, 10}},
		{[]int{0, 1, 2, 3, 4, 5, 6, 7}, []int{1, 2, 0}, []int{0, 4, 1, 5, 2, 6, 3, 7}},
		{[]int{0, -7}, []int{0}, []int{0, -7}},
	} {
		if l, e := purse.Permute(x.v, x.order); !slices.Equal(l, x.want) || e != api.OK {
			t.Errorf("Permute(%v, %v): %v, %d, want %v", x.v, x.order, l, e, x.want)
		}
	}
	purses(func(v []int) {
		shapley, _ := purse.Shapley(v)
		for _, order := range allOrders(playersOf(v)) {
			l, e := purse.Permute(v, order)
			if len(l) != len(v) || e != api.OK {
				t.Fatalf("Permute(%v, %v): %v, %d", v, order, l, e)
			}
			for g := range v {
				became := 0
				for i, now := range order {
					became += g >> i & 1 << now
				}
				if l[became] != v[g] {
					t.Fatalf("Permute(%v, %v): %v, but %d has become %d", v, order, l, g, became)
				}
			}
			permuted, _ := purse.Shapley(l)
			for i, now := range order {
				if permuted[now] != shapley[i] {
					t.Fatalf("Shapley(%v): %v, but Shapley(%v): %v", v, shapley, l, permuted)
				}
			}
		}
	})
}

func TestMeans(t *testing.T) {
	all := func(n, num, den int) []api.Rat { return slices.Repeat([]api.Rat{{Num: num, Den: den}}, n) }
	glove := []int{0, 0, 0, 1, 0, 1, 0, 1}
	for _, x := range []struct {
		v                []int
		shapley, banzhaf []api.Rat
	}{
		{[]int{0, 0, 0, 10}, all(2, 5, 1), all(2, 5, 1)},
		{[]int{0, -5}, all(1, -5, 1), all(1, -5, 1)},
		{[]int{0, 0}, all(1, 0, 1), all(1, 0, 1)},
		{[]int{0, 0, 0, -7}, all(2, -7, 2), all(2, -7, 2)},
		{pairs(10, 12), all(3, 4, 1), all(3, 11, 2)},
		{glove, []api.Rat{{Num: 2, Den: 3}, {Num: 1, Den: 6}, {Num: 1, Den: 6}}, []api.Rat{{Num: 3, Den: 4}, {Num: 1, Den: 4}, {Num: 1, Den: 4}}},
		{make([]int, 32), all(5, 0, 1), all(5, 0, 1)},
		{append(make([]int, 31), 1), all(5, 1, 5), all(5, 1, 16)},
		{append(make([]int, 31), -1000), all(5, -200, 1), all(5, -125, 2)},
	} {
		shapley, e := purse.Shapley(x.v)
		banzhaf, f := purse.Banzhaf(x.v)
		if !slices.Equal(shapley, x.shapley) || !slices.Equal(banzhaf, x.banzhaf) || e != api.OK || f != api.OK {
			t.Errorf("%v: Shapley %v, %d, Banzhaf %v, %d", x.v, shapley, e, banzhaf, f)
		}
	}
	purses(func(v []int) {
		shapley, e := purse.Shapley(v)
		banzhaf, f := purse.Banzhaf(v)
		if !areRats(shapley, wantShapley(v)) || e != api.OK {
			t.Fatalf("Shapley(%v): %v, %d, want %v", v, shapley, e, wantShapley(v))
		}
		if !areRats(banzhaf, wantBanzhaf(v)) || f != api.OK {
			t.Fatalf("Banzhaf(%v): %v, %d, want %v", v, banzhaf, f, wantBanzhaf(v))
		}
		// Again, all that is earned is given out.
		total := new(big.Rat)
		for _, r := range shapley {
			total.Add(total, ratOf(r.Num, r.Den))
		}
		if total.Cmp(ratOf(v[len(v)-1], 1)) != 0 {
			t.Fatalf("Shapley(%v): %v gives out %v", v, shapley, total)
		}
	})
}

// TestIdleAndEqual tests purses in which the last player adds nothing, or as much
// as the one before it.
func TestIdleAndEqual(t *testing.T) {
	r := rand.New(rand.NewPCG(8, 5))
	for range 300 {
		v := drawn(r, r.IntN(4)+1)
		n := playersOf(v)
		idle := append(slices.Clone(v), v...)
		l, e := purse.Shapley(idle)
		alone, _ := purse.Shapley(v)
		if !slices.Equal(l, append(alone, api.Rat{Num: 0, Den: 1})) || e != api.OK {
			t.Fatalf("Shapley(%v): %v, %d", idle, l, e)
		}
		equal := drawn(r, n+1)
		for g := range equal {
			if has(g, n) && !has(g, n-1) {
				equal[g] = equal[g-1<<n+1<<(n-1)]
			}
		}
		if l, e := purse.Shapley(equal); l[n] != l[n-1] || e != api.OK {
			t.Fatalf("Shapley(%v): %v, %d", equal, l, e)
		}
	}
}

// TestShapleyOfSums tests that sums of purses are divided into sums.
func TestShapleyOfSums(t *testing.T) {
	r := rand.New(rand.NewPCG(8, 6))
	for range 1000 {
		n := r.IntN(5) + 1
		v, w := drawn(r, n), drawn(r, n)
		both, e := purse.Add(v, w)
		if e != api.OK {
			continue
		}
		a, _ := purse.Shapley(v)
		b, _ := purse.Shapley(w)
		var want []*big.Rat
		for i := range a {
			want = append(want, new(big.Rat).Add(ratOf(a[i].Num, a[i].Den), ratOf(b[i].Num, b[i].Den)))
		}
		if l, e := purse.Shapley(both); !areRats(l, want) || e != api.OK {
			t.Fatalf("Shapley(%v): %v, %d, want %v", both, l, e, want)
		}
	}
}
