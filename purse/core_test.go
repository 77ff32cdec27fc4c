package purse_test

import (
	"math"
	"math/big"
	"math/rand/v2"
	"slices"
	"testing"

	"wigeon/api"
	"wigeon/purse"
)

func TestCheckCore(t *testing.T) {
	v := pairs(8, 12)
	for _, x := range []struct {
		v   []int
		den int
		num []int
		e   api.Errno
	}{
		{v, 1, []int{4, 4, 4}, api.OK},
		{v, 1000, []int{4000, 4000, 4000}, api.OK},
		{v, 2, []int{8, 8, 8}, api.OK},
		{v, 1, []int{5, 4, 3}, api.ErrProof},
		{v, 1, []int{5, 5, 5}, api.ErrProof}, // too much
		{v, 2, []int{4, 4, 4}, api.ErrProof}, // too little
		{v, 1, []int{10000000, -10000000, 12}, api.ErrProof},
		{v, 1, []int{4, 4}, api.ErrArg},
		{v, 1, []int{4, 4, 4, 0}, api.ErrArg},
		{v, 1, nil, api.ErrArg},
		{v, 0, []int{4, 4, 4}, api.ErrArg},
		{v, -1, []int{-4, -4, -4}, api.ErrArg},
		{v, 1001, []int{4004, 4004, 4004}, api.ErrArg},
		{v, math.MaxInt, []int{4, 4, 4}, api.ErrArg},
		{v, math.MinInt, []int{4, 4, 4}, api.ErrArg},
		{v, 1, []int{10000001, 4, 4}, api.ErrArg},
		{v, 1, []int{4, 4, -10000001}, api.ErrArg},
		{v, 1, []int{math.MinInt, math.MinInt, 12}, api.ErrArg},
		{v, 1, []int{math.MaxInt, 4, 4}, api.ErrArg},
		// Each bound of the core of two players who earn more together.
		{[]int{0, 0, 0, 10}, 1, []int{0, 10}, api.OK},
		{[]int{0, 0, 0, 10}, 1, []int{10, 0}, api.OK},
		{[]int{0, 0, 0, 10}, 1, []int{-1, 11}, api.ErrProof},
		{[]int{0, 0, 0, 10}, 1, []int{11, -1}, api.ErrProof},
		{[]int{0, 0, 0, 10}, 3, []int{7, 23}, api.OK},
		{[]int{0, -7}, 1, []int{-7}, api.OK},
		{[]int{0, -7}, 1, []int{-6}, api.ErrProof},
		{[]int{0, -7}, 1, []int{-8}, api.ErrProof},
	} {
		if e := purse.CheckCore(x.v, api.Pay{Den: x.den, Num: x.num}); e != x.e {
			t.Errorf("CheckCore(%v, %d %v): %d, want %d", x.v, x.den, x.num, e, x.e)
		}
		// Excess has the same errors of the arguments.
		g, excess, e := purse.Excess(x.v, api.Pay{Den: x.den, Num: x.num})
		if (e == api.ErrArg) != (x.e == api.ErrArg) || e != api.OK && (g != 0 || excess != 0) {
			t.Errorf("Excess(%v, %d %v): %d, %d, %d", x.v, x.den, x.num, g, excess, e)
		}
	}
}

// TestCheckCoreOfSome tests pays in the core and ones a little beside them.
func TestCheckCoreOfSome(t *testing.T) {
	r := rand.New(rand.NewPCG(8, 8))
	inside, outside := 0, 0
	purses(func(v []int) {
		p, found, _ := purse.Core(v)
		if !found {
			p = api.Pay{Den: 1, Num: make([]int, playersOf(v))}
		}
		for range 5 {
			at := r.IntN(len(p.Num))
			move := r.IntN(3) - 1
			to := r.IntN(len(p.Num))
			p.Num = slices.Clone(p.Num)
			p.Num[at] += move
			p.Num[to] -= move
			if r.IntN(5) == 0 {
				p.Num[at] += r.IntN(3) - 1
			}
			want := api.OK
			if !wantInCore(v, p) {
				want = api.ErrProof
				outside++
			} else {
				inside++
			}
			if e := purse.CheckCore(v, p); e != want {
				t.Fatalf("CheckCore(%v, %v): %d, want %d", v, p, e, want)
			}
			checkExcess(t, v, p)
		}
	})
	if inside < 500 || outside < 500 {
		t.Errorf("%d pays are in the core, %d are not", inside, outside)
	}
}

// checkExcess tests Excess for a pay.
func checkExcess(t *testing.T, v []int, p api.Pay) {
	t.Helper()
	g, excess, e := purse.Excess(v, p)
	if len(v) == 2 {
		if g != 0 || excess != 0 || e != api.ErrNone {
			t.Fatalf("Excess(%v, %v): %d, %d, %d", v, p, g, excess, e)
		}
		return
	}
	wantG, want := 0, math.MinInt
	for h := 1; h < len(v)-1; h++ {
		lacks := p.Den * v[h]
		for i, num := range p.Num {
			if has(h, i) {
				lacks -= num
			}
		}
		if lacks > want {
			wantG, want = h, lacks
		}
	}
	if g != wantG || excess != want || e != api.OK {
		t.Fatalf("Excess(%v, %v): %d, %d, %d, want %d, %d", v, p, g, excess, e, wantG, want)
	}
}

func TestExcess(t *testing.T) {
	for _, x := range []struct {
		v         []int
		den       int
		num       []int
		g, excess int
	}{
		{pairs(8, 12), 1, []int{4, 4, 4}, 3, 0},
		{pairs(8, 12), 1, []int{5, 4, 3}, 6, 1},
		{pairs(8, 12), 2, []int{10, 8, 6}, 6, 2},
		{pairs(8, 12), 1, []int{-9, 0, 0}, 3, 17},
		{[]int{0, 1, 1, 10}, 1, []int{5, 5}, 1, -4},
		{[]int{0, 1, 2, 10}, 1, []int{5, 5}, 2, -3},
		// The whole and the empty group lack more, but are not asked for.
		{[]int{0, -5, -5, 1000}, 1, []int{0, 0}, 1, -5},
		{[]int{0, 0, 0, 0}, 1000, []int{10000000, 10000000}, 1, -10000000},
		{[]int{0, 1000, 0, 0}, 1000, []int{-10000000, 10000000}, 1, 11000000},
	} {
		if g, excess, e := purse.Excess(x.v, api.Pay{Den: x.den, Num: x.num}); g != x.g || excess != x.excess || e != api.OK {
			t.Errorf("Excess(%v, %d %v): %d, %d, %d, want %d, %d", x.v, x.den, x.num, g, excess, e, x.g, x.excess)
		}
	}
	for _, num := range []int{5, 6, 4, 0} {
		if g, excess, e := purse.Excess([]int{0, 5}, api.Pay{Den: 1, Num: []int{num}}); g != 0 || excess != 0 || e != api.ErrNone {
			t.Errorf("Excess of one player: %d, %d, %d", g, excess, e)
		}
	}
	if _, _, e := purse.Excess([]int{0, 5}, api.Pay{Den: 0, Num: []int{5}}); e != api.ErrArg {
		t.Errorf("Excess of one player and no pay: %d", e)
	}
}

func TestCheckBalance(t *testing.T) {
	part := func(group, weight int) api.Part { return api.Part{Group: group, Weight: weight} }
	three := []api.Part{part(3, 1), part(5, 1), part(6, 1)}
	singles := []api.Part{part(1, 1000), part(2, 1000), part(4, 1000)}
	against, not := pairs(10, 12), pairs(8, 12)
	for _, x := range []struct {
		v     []int
		den   int
		parts []api.Part
		e     api.Errno
	}{
		{against, 2, three, api.OK},
		{not, 2, three, api.ErrProof}, // 24 against 24
		{pairs(9, 13), 2, three, api.OK},
		{against, 4, append(slices.Clone(three), three...), api.OK},
		{against, 1, []api.Part{part(7, 1)}, api.ErrProof},
		{against, 3, append(slices.Clone(three), part(7, 1)), api.OK},
		{against, 1000, singles, api.ErrProof},
		{[]int{0, 5, 5, 9, 5, 9, 9, 14}, 1000, singles, api.OK},
		{[]int{0, 5, 5, 9, 5, 9, 9, 15}, 1000, singles, api.ErrProof},
		{[]int{0, 5}, 1, []api.Part{part(1, 1)}, api.ErrProof},
		// Den
		{against, 0, nil, api.ErrArg}, {against, 0, three, api.ErrArg}, {against, -2, three, api.ErrArg}, {against, 1, three, api.ErrArg}, {against, 3, three, api.ErrArg},
		{against, 1001, []api.Part{part(7, 1000), part(7, 1)}, api.ErrArg}, {against, 1000, []api.Part{part(7, 999), part(7, 1)}, api.ErrProof},
		{against, math.MaxInt, three, api.ErrArg}, {against, math.MinInt, three, api.ErrArg},
		// the number of parts
		{against, 1, nil, api.ErrArg}, {against, 32, slices.Repeat([]api.Part{part(7, 1)}, 32), api.ErrProof}, {against, 33, slices.Repeat([]api.Part{part(7, 1)}, 33), api.ErrArg},
		{against, 22, slices.Concat(slices.Repeat(three, 10), []api.Part{part(7, 1), part(7, 1)}), api.OK}, {against, 22, slices.Repeat(three, 11), api.ErrArg},
		{against, 1000, make([]api.Part, 100000), api.ErrArg},
		// a group
		{against, 2, append(slices.Clone(three), part(0, 1)), api.ErrArg}, {against, 2, append(slices.Clone(three), part(8, 1)), api.ErrArg}, {against, 2, append(slices.Clone(three), part(64, 1)), api.ErrArg}, {against, 1, []api.Part{part(8, 1)}, api.ErrArg}, {against, 1, []api.Part{part(15, 1)}, api.ErrArg},
		{against, 1, []api.Part{part(-1, 1)}, api.ErrArg}, {against, 1, []api.Part{part(7+1<<32, 1)}, api.ErrArg}, {against, 1, []api.Part{part(math.MinInt, 1)}, api.ErrArg}, {against, 1, []api.Part{part(math.MaxInt, 1)}, api.ErrArg},
		// a weight
		{against, 2, append(slices.Clone(three), part(7, 0)), api.ErrArg}, {against, 2, append(slices.Clone(three), part(7, -1)), api.ErrArg}, {against, 1, append(slices.Clone(three), part(7, -1)), api.ErrArg},
		{against, 1000, []api.Part{part(7, 1001), part(7, -1)}, api.ErrArg}, {against, 1, []api.Part{part(7, math.MaxInt), part(7, math.MaxInt), part(7, 3)}, api.ErrArg},
		{against, 1000, []api.Part{part(7, 1001)}, api.ErrArg}, {against, 1, []api.Part{part(7, math.MinInt), part(7, math.MinInt), part(7, 1)}, api.ErrArg},
		// the sums
		{against, 2, three[:2], api.ErrArg}, {against, 2, []api.Part{part(3, 1), part(5, 1), part(6, 2)}, api.ErrArg}, {against, 1, []api.Part{part(1, 1), part(2, 1)}, api.ErrArg},
		{against, 1, []api.Part{part(3, 1), part(4, 1), part(4, 1)}, api.ErrArg},
	} {
		if e := purse.CheckBalance(x.v, api.Balance{Den: x.den, Parts: x.parts}); e != x.e {
			t.Errorf("CheckBalance(%v, %d, %d parts, %v): %d, want %d", x.v, x.den, len(x.parts), x.parts[:min(len(x.parts), 5)], e, x.e)
		}
	}
}

// TestCheckBalanceOfSome tests balances and lists that may be ones.
func TestCheckBalanceOfSome(t *testing.T) {
	r := rand.New(rand.NewPCG(8, 9))
	seen := map[api.Errno]int{}
	for range 3000 {
		v := drawn(r, r.IntN(3)+2)
		n := playersOf(v)
		b := api.Balance{Den: r.IntN(3) + 1}
		for range r.IntN(4) {
			// A group and all others are balanced, with the same weight.
			weight, g := r.IntN(3)+1, r.IntN(len(v)-2)+1
			b.Parts = append(b.Parts, api.Part{Group: g, Weight: weight}, api.Part{Group: len(v) - 1 - g, Weight: weight})
			if r.IntN(2) == 0 {
				b.Den = weight
				b.Parts = b.Parts[len(b.Parts)-2:]
			}
		}
		if r.IntN(4) == 0 && len(b.Parts) > 0 {
			b.Parts[r.IntN(len(b.Parts))] = api.Part{Group: r.IntN(len(v)+2) - 1, Weight: r.IntN(4)}
		}
		want := api.OK
		if !wantIsBalance(b, n) {
			want = api.ErrArg
		} else if gain(v, b).Sign() <= 0 {
			want = api.ErrProof
		}
		seen[want]++
		if e := purse.CheckBalance(v, b); e != want {
			t.Fatalf("CheckBalance(%v, %v): %d, want %d", v, b, e, want)
		}
	}
	for _, e := range []api.Errno{api.OK, api.ErrArg, api.ErrProof} {
		if seen[e] < 200 {
			t.Errorf("%d balances give %d", seen[e], e)
		}
	}
}

// TestCoreOrBalance tests the second half of S7: there is a pay in the core
// exactly if no balance is against the purse, as far as the small ones say.
func TestCoreOrBalance(t *testing.T) {
	var small [6][]api.Balance
	for n := 1; n <= 5; n++ {
		small[n] = smallBalances(n)
		// The number of players is known to have so many of them.
		if want := []int{0, 0, 1, 5, 41, 1291}[n]; len(small[n]) != want {
			t.Fatalf("%d balances of %d players, want %d", len(small[n]), n, want)
		}
	}
	withCore, without := 0, 0
	look := func(v []int) {
		want := true
		for _, b := range small[playersOf(v)] {
			want = want && gain(v, b).Sign() <= 0
		}
		checkCoreOrBalance(t, v, want)
		if want {
			withCore++
		} else {
			without++
		}
	}
	purses(look)
	r := rand.New(rand.NewPCG(8, 10))
	for range 400 {
		// The whole earns just enough, or just not.
		v := drawn(r, r.IntN(3)+3)
		v[len(v)-1] = 0
		least := new(big.Rat)
		for i, b := range small[playersOf(v)] {
			if g := gain(v, b); i == 0 || g.Cmp(least) > 0 {
				least = g
			}
		}
		floor := new(big.Int).Div(least.Num(), least.Denom()).Int64()
		for value := floor - 1; value <= floor+1; value++ {
			if value >= -1000 && value <= 1000 {
				v[len(v)-1] = int(value)
				look(v)
			}
		}
	}
	if withCore < 1000 || without < 1000 {
		t.Errorf("%d purses have a core, %d have none", withCore, without)
	}
}

// checkCoreOrBalance tests what Core and Against return for a purse that is to
// have a core, or not.
func checkCoreOrBalance(t *testing.T, v []int, core bool) {
	t.Helper()
	p, found, e := purse.Core(v)
	b, against, f := purse.Against(v)
	if found != core || against == core || e != api.OK || f != api.OK {
		t.Fatalf("%v: Core %v, %t, %d, Against %v, %t, %d", v, p, found, e, b, against, f)
	}
	if found {
		if p.Den < 1 || p.Den > 1000 || len(p.Num) != playersOf(v) || !wantInCore(v, p) || purse.CheckCore(v, p) != api.OK {
			t.Fatalf("Core(%v): %v", v, p)
		}
		if b.Den != 0 || len(b.Parts) != 0 {
			t.Fatalf("Against(%v): %v, but there is none", v, b)
		}
		return
	}
	if !wantIsBalance(b, playersOf(v)) || gain(v, b).Sign() <= 0 || purse.CheckBalance(v, b) != api.OK {
		t.Fatalf("Against(%v): %v", v, b)
	}
	if p.Den != 0 || len(p.Num) != 0 {
		t.Fatalf("Core(%v): %v, but there is none", v, p)
	}
}

func TestCoreExamples(t *testing.T) {
	sized := func(values ...int) []int {
		v := make([]int, 1<<(len(values)-1))
		for g := range v {
			v[g] = values[size(g)]
		}
		return v
	}
	for _, x := range []struct {
		v    []int
		core bool
	}{
		{[]int{0, 0, 0, 10}, true}, {pairs(10, 12), false}, {pairs(8, 12), true}, {pairs(9, 12), false},
		{[]int{0, 0}, true}, {[]int{0, -5}, true}, {[]int{0, 1000}, true},
		{[]int{0, 5, 5, 9}, false}, {[]int{0, 5, 5, 10}, true}, {[]int{0, -3, -4, -8}, false}, {[]int{0, -4, -5, -8}, true},
		{sized(0, 0, 0, 0, 80, 100), true}, {sized(0, 0, 0, 0, 81, 100), false},
		{sized(0, 0, 0, 60, 0, 100), true}, {sized(0, 0, 0, 61, 0, 100), false}, {sized(0, 0, 40, 0, 0, 100), true}, {sized(0, 0, 41, 0, 0, 100), false},
		{sized(0, 20, 40, 60, 80, 100), true}, {sized(0, 21, 0, 0, 0, 100), false},
		{sized(0, 1000, 1000, 1000, 1000, 1000), false}, {sized(0, -1000, -1000, -1000, -1000, -1000), true}, {sized(0, 1000, 1000, 1000, 1000, -1000), false}, {sized(0, -1000, -1000, -1000, 1000, 1000), false}, {sized(0, -1000, -1000, -1000, -1000, 1000), true},
		{sized(0, 1000, -1000, -1000, -1000, -1000), false}, {sized(0, 200, 200, 200, 200, 1000), true},
	} {
		checkCoreOrBalance(t, x.v, x.core)
	}
}
