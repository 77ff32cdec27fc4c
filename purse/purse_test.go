package purse_test

import (
	"math"
	"math/rand/v2"
	"slices"
	"testing"

	"wigeon/api"
	"wigeon/purse"
)

func TestValidate(t *testing.T) {
	for _, v := range [][]int{{0, 0}, {0, 1000}, {0, -1000}, {0, 1, 2, 10}, make([]int, 8), make([]int, 16), make([]int, 32), {0, 1000, -1000, 1000}} {
		if e := purse.Validate(v); e != api.OK {
			t.Errorf("Validate(%v): %d", v, e)
		}
	}
	for _, v := range notPurses() {
		wantErrors(t, answers(v, []int{0}), api.ErrArg, v[:min(len(v), 8)], len(v))
		if l, e := purse.Add(v, []int{0, 1}); len(l) != 0 || e != api.ErrArg {
			t.Errorf("Add of %d values and a purse: %v, %d", len(v), l, e)
		}
		if l, e := purse.Add([]int{0, 1}, v); len(l) != 0 || e != api.ErrArg {
			t.Errorf("Add of a purse and %d values: %v, %d", len(v), l, e)
		}
	}
}

func TestPlayers(t *testing.T) {
	for want := 1; want <= 5; want++ {
		if n, e := purse.Players(make([]int, 1<<want)); n != want || e != api.OK {
			t.Errorf("Players of %d values: %d, %d", 1<<want, n, e)
		}
	}
}

func TestAdd(t *testing.T) {
	for _, x := range []struct {
		v, w, want []int
		e          api.Errno
	}{
		{[]int{0, 1, 2, 10}, []int{0, 5, -5, 990}, []int{0, 6, -3, 1000}, api.OK},
		{[]int{0, 1000}, []int{0, -1000}, []int{0, 0}, api.OK},
		{[]int{0, -999}, []int{0, -1}, []int{0, -1000}, api.OK},
		{[]int{0, 1000}, []int{0, 1}, nil, api.ErrLarge},
		{[]int{0, -1000}, []int{0, -1}, nil, api.ErrLarge},
		{[]int{0, 0, 1000, 0}, []int{0, 0, 1000, 0}, nil, api.ErrLarge},
		// Not equally many: whatever the sums would be.
		{[]int{0, 1}, []int{0, 1, 2, 3}, nil, api.ErrArg},
		{[]int{0, 1, 2, 3}, []int{0, 1}, nil, api.ErrArg},
		{[]int{0, 1000}, []int{0, 1000, 1000, 1000}, nil, api.ErrArg},
		{make([]int, 32), make([]int, 16), nil, api.ErrArg},
	} {
		if l, e := purse.Add(x.v, x.w); !slices.Equal(l, x.want) || e != x.e {
			t.Errorf("Add(%v, %v): %v, %d, want %v, %d", x.v, x.w, l, e, x.want, x.e)
		}
	}
}

func TestAddOfSome(t *testing.T) {
	r := rand.New(rand.NewPCG(8, 2))
	fits := 0
	for range 3000 {
		n := r.IntN(5) + 1
		v, w := drawn(r, n), drawn(r, n)
		if r.IntN(3) == 0 {
			v[r.IntN(len(v)-1)+1] = 2000*r.IntN(2) - 1000
		}
		want := make([]int, len(v))
		wantE := api.OK
		for g := range want {
			want[g] = v[g] + w[g]
			if want[g] < -1000 || want[g] > 1000 {
				wantE = api.ErrLarge
			}
		}
		if wantE != api.OK {
			want = nil
		} else {
			fits++
		}
		if l, e := purse.Add(v, w); !slices.Equal(l, want) || e != wantE {
			t.Fatalf("Add(%v, %v): %v, %d, want %v, %d", v, w, l, e, want, wantE)
		}
	}
	if fits < 1000 || fits > 2700 {
		t.Errorf("%d sums fit", fits)
	}
}

func TestDual(t *testing.T) {
	for _, x := range []struct {
		v, want []int
		e       api.Errno
	}{
		{[]int{0, 1, 2, 10}, []int{0, 8, 9, 10}, api.OK},
		{pairs(8, 12), []int{0, 4, 4, 12, 4, 12, 12, 12}, api.OK},
		{[]int{0, 1, 2, 3, 4, 5, 6, 7}, []int{0, 1, 2, 3, 4, 5, 6, 7}, api.OK},
		{[]int{0, -7}, []int{0, -7}, api.OK},
		{[]int{0, 0, 0, 1000}, []int{0, 1000, 1000, 1000}, api.OK},
		{[]int{0, -1, 0, 1000}, nil, api.ErrLarge},
		{[]int{0, 0, -1, 1000}, nil, api.ErrLarge},
		{[]int{0, 1, 0, -1000}, nil, api.ErrLarge},
		{[]int{0, 1000, -1000, 0}, []int{0, 1000, -1000, 0}, api.OK},
	} {
		if l, e := purse.Dual(x.v); !slices.Equal(l, x.want) || e != x.e {
			t.Errorf("Dual(%v): %v, %d, want %v, %d", x.v, l, e, x.want, x.e)
		}
	}
	purses(func(v []int) {
		n := len(v)
		want := make([]int, n)
		wantE := api.OK
		for g := range v {
			want[g] = v[n-1] - v[n-1-g]
			if want[g] < -1000 || want[g] > 1000 {
				wantE = api.ErrLarge
			}
		}
		if wantE != api.OK {
			want = nil
		}
		l, e := purse.Dual(v)
		if !slices.Equal(l, want) || e != wantE {
			t.Fatalf("Dual(%v): %v, %d, want %v, %d", v, l, e, want, wantE)
		}
		// The dual of the dual is the purse, and it is divided in the same way.
		if e == api.OK {
			back, e := purse.Dual(l)
			if !slices.Equal(back, v) || e != api.OK {
				t.Fatalf("Dual(%v): %v, %d, want %v", l, back, e, v)
			}
			a, _ := purse.Shapley(v)
			b, _ := purse.Shapley(l)
			if !slices.Equal(a, b) {
				t.Fatalf("Shapley(%v): %v, of its dual: %v", v, a, b)
			}
		}
	})
}

// TestSuperAndConvex tests P8.4 with its consequence.
func TestSuperAndConvex(t *testing.T) {
	for _, x := range []struct {
		v             []int
		super, convex bool
	}{
		{[]int{0, 0, 0, 10}, true, true}, {pairs(10, 12), true, false}, {pairs(6, 12), true, true}, {pairs(7, 12), true, false},
		{[]int{0, 5, 5, 9}, false, false}, {[]int{0, 5, 5, 10}, true, true}, {[]int{0, -7}, true, true}, {[]int{0, 7}, true, true},
		{[]int{0, 1, 1, 2, 1, 2, 2, 2}, false, false}, {[]int{0, -1, -1, -2, -1, -2, -2, -3}, true, true},
	} {
		super, e := purse.IsSuper(x.v)
		convex, f := purse.IsConvex(x.v)
		if super != x.super || convex != x.convex || e != api.OK || f != api.OK {
			t.Errorf("%v: super %t, %d, convex %t, %d", x.v, super, e, convex, f)
		}
	}
	kinds := map[[2]bool]int{}
	look := func(v []int) {
		wantSuper, wantConvex := wantIsSuper(v), wantIsConvex(v)
		super, e := purse.IsSuper(v)
		convex, f := purse.IsConvex(v)
		if super != wantSuper || convex != wantConvex || e != api.OK || f != api.OK {
			t.Fatalf("%v: super %t, %d, convex %t, %d", v, super, e, convex, f)
		}
		if convex && !super {
			t.Fatalf("%v is convex and not super", v)
		}
		kinds[[2]bool{super, convex}]++
		if !convex {
			return
		}
		for _, order := range allOrders(playersOf(v)) {
			l, _ := purse.Marginal(v, order)
			if e := purse.CheckCore(v, api.Pay{Den: 1, Num: l}); e != api.OK {
				t.Fatalf("Marginal(%v, %v): %v is not in the core: %d", v, order, l, e)
			}
		}
	}
	purses(look)
	r := rand.New(rand.NewPCG(8, 3))
	for range 300 {
		// Without dividends of groups of two or more below 0, a purse is convex.
		d := make([]int, 1<<(r.IntN(4)+2))
		for g := 1; g < len(d); g++ {
			d[g] = r.IntN(20)
			if size(g) == 1 {
				d[g] -= 10
			}
		}
		v, e := purse.FromDividends(d)
		if is, _ := purse.IsConvex(v); !is || e != api.OK {
			t.Fatalf("%v, with the dividends %v, is not convex", v, d)
		}
		look(v)
		v[r.IntN(len(v)-2)+1] -= r.IntN(30)
		look(v)
	}
	for _, kind := range [][2]bool{{true, true}, {true, false}, {false, false}} {
		if kinds[kind] < 100 {
			t.Errorf("super, convex %v: %d purses", kind, kinds[kind])
		}
	}
}

// wantIsSuper goes through all ways to divide each group into two.
func wantIsSuper(v []int) bool {
	for g := range v {
		for part := range v {
			if part&g == part && v[g] < v[part]+v[g-part] {
				return false
			}
		}
	}
	return true
}

// wantIsConvex looks whether each player adds no less to a group that has one
// player more.
func wantIsConvex(v []int) bool {
	for g := range v {
		for i := range playersOf(v) {
			for j := range i {
				a, b := 1<<i, 1<<j
				if !has(g, i) && !has(g, j) && v[g+a+b]-v[g+b] < v[g+a]-v[g] {
					return false
				}
			}
		}
	}
	return true
}

// TestMemory tests that no purse is changed, that results share no memory with
// it, and that the next call returns the same.
func TestMemory(t *testing.T) {
	spoil := func(l []int) {
		for i := range l {
			l[i] = math.MinInt
		}
	}
	r := rand.New(rand.NewPCG(8, 4))
	purses(func(v []int) {
		given := slices.Clone(v)
		n := playersOf(v)
		order := r.Perm(n)
		givenOrder := slices.Clone(order)
		pay, found, _ := purse.Core(v)
		b, against, _ := purse.Against(v)
		results := func() [][]int {
			marginal, _ := purse.Marginal(v, order)
			dividends, _ := purse.Dividends(v)
			sums, _ := purse.Add(v, make([]int, len(v)))
			dual, _ := purse.Dual(v)
			permuted, _ := purse.Permute(v, order)
			from, _ := purse.FromDividends(v)
			pay, _, _ := purse.Core(v)
			return [][]int{marginal, dividends, sums, dual, permuted, from, pay.Num}
		}
		l := results()
		var had [][]int
		for _, numbers := range l {
			had = append(had, slices.Clone(numbers))
			spoil(numbers)
		}
		hadParts := slices.Clone(b.Parts)
		clear(b.Parts)
		for i, numbers := range results() {
			if !slices.Equal(numbers, had[i]) {
				t.Fatalf("the result %d of %v: at first %v, then %v", i, given, had[i], numbers)
			}
		}
		b.Parts = hadParts
		if _, _, e := purse.Excess(v, pay); found && n > 1 && e != api.OK {
			t.Fatalf("Excess(%v, %v): %d", v, pay, e)
		}
		if found && purse.CheckCore(v, pay) != api.OK || against && purse.CheckBalance(v, b) != api.OK {
			t.Fatalf("%v: %v or %v is wrong", v, pay, b)
		}
		again, isAgainst, e := purse.Against(v)
		if again.Den != b.Den || !slices.Equal(again.Parts, hadParts) || isAgainst != against || e != api.OK {
			t.Fatalf("Against(%v): at first %v, then %v", v, b, again)
		}
		if !slices.Equal(v, given) || !slices.Equal(order, givenOrder) {
			t.Fatalf("%v, %v have become %v, %v", given, givenOrder, v, order)
		}
	})
}
