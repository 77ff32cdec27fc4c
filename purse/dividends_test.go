package purse_test

import (
	"math"
	"math/big"
	"math/rand/v2"
	"slices"
	"testing"

	"wigeon/api"
	"wigeon/purse"
)

func TestDividends(t *testing.T) {
	for _, x := range []struct{ v, want []int }{
		{[]int{0, 0, 0, 10}, []int{0, 0, 0, 10}},
		{[]int{0, 1, 2, 10}, []int{0, 1, 2, 7}},
		{pairs(10, 12), []int{0, 0, 0, 10, 0, 10, 10, -18}},
		{[]int{0, -5}, []int{0, -5}},
		{[]int{0, 1000, 1000, -1000}, []int{0, 1000, 1000, -3000}},
	} {
		if d, e := purse.Dividends(x.v); !slices.Equal(d, x.want) || e != api.OK {
			t.Errorf("Dividends(%v): %v, %d, want %v", x.v, d, e, x.want)
		}
	}
	purses(func(v []int) {
		d, e := purse.Dividends(v)
		if !slices.Equal(d, wantDividends(v)) || e != api.OK {
			t.Fatalf("Dividends(%v): %v, %d, want %v", v, d, e, wantDividends(v))
		}
		if !slices.Equal(wantFromDividends(d), v) {
			t.Fatalf("Dividends(%v): %v do not add up", v, d)
		}
		if back, e := purse.FromDividends(d); !slices.Equal(back, v) || e != api.OK {
			t.Fatalf("FromDividends(%v): %v, %d, want %v", d, back, e, v)
		}
		// Each player gets an equal part of each dividend.
		var want []*big.Rat
		for i := range playersOf(v) {
			total := new(big.Rat)
			for g := range d {
				if has(g, i) {
					total.Add(total, ratOf(d[g], size(g)))
				}
			}
			want = append(want, total)
		}
		if l, _ := purse.Shapley(v); !areRats(l, want) {
			t.Fatalf("Shapley(%v): %v, but the dividends say %v", v, l, want)
		}
	})
}

func TestFromDividends(t *testing.T) {
	wide := make([]int, 32)
	wide[1], wide[31] = 1000000, 1000000
	for _, x := range []struct {
		d, want []int
		e       api.Errno
	}{
		{[]int{0, 1, 2, 7}, []int{0, 1, 2, 10}, api.OK},
		{[]int{0, 1000, 0, -2000}, []int{0, 1000, 0, -1000}, api.OK},
		{[]int{0, 1000, 1000, -3000}, []int{0, 1000, 1000, -1000}, api.OK},
		{[]int{0, 1000, 1, 0}, nil, api.ErrLarge},
		{[]int{0, -1000, -1, 0}, nil, api.ErrLarge},
		{[]int{0, 1001}, nil, api.ErrLarge},
		{[]int{0, 1000000}, nil, api.ErrLarge},
		{[]int{0, -1000000}, nil, api.ErrLarge},
		{wide, nil, api.ErrLarge},
		// The whole has a small value, but a part of it a great one.
		{[]int{0, 2000, 0, -2000}, nil, api.ErrLarge},
		{[]int{0, 1000001}, nil, api.ErrArg},
		{[]int{0, -1000001}, nil, api.ErrArg},
		{[]int{0, 5000, 0, 1000001}, nil, api.ErrArg},
		{[]int{0, math.MaxInt, 1, 1}, nil, api.ErrArg},
		{[]int{0, math.MinInt, math.MinInt, 0}, nil, api.ErrArg},
		{[]int{1, 1}, nil, api.ErrArg},
		{[]int{1, 5000}, nil, api.ErrArg},
		{[]int{0}, nil, api.ErrArg},
		{nil, nil, api.ErrArg},
		{[]int{0, 1, 1}, nil, api.ErrArg},
		{[]int{0, 5000, 1}, nil, api.ErrArg},
		{make([]int, 64), nil, api.ErrArg},
		{make([]int, 100000), nil, api.ErrArg},
	} {
		if v, e := purse.FromDividends(x.d); !slices.Equal(v, x.want) || e != x.e {
			t.Errorf("FromDividends of %d dividends, %v: %v, %d, want %v, %d", len(x.d), x.d[:min(len(x.d), 8)], v, e, x.want, x.e)
		}
	}
}

func TestFromDividendsOfSome(t *testing.T) {
	r := rand.New(rand.NewPCG(8, 7))
	fits := 0
	for range 3000 {
		d := make([]int, 1<<(r.IntN(5)+1))
		most := []int{5, 200, 500, 2000, 1000000}[r.IntN(5)]
		for g := 1; g < len(d); g++ {
			d[g] = r.IntN(2*most+1) - most
		}
		want := wantFromDividends(d)
		wantE := api.OK
		if slices.Max(want) > 1000 || slices.Min(want) < -1000 {
			want, wantE = nil, api.ErrLarge
		} else {
			fits++
		}
		if v, e := purse.FromDividends(d); !slices.Equal(v, want) || e != wantE {
			t.Fatalf("FromDividends(%v): %v, %d, want %v, %d", d, v, e, want, wantE)
		}
	}
	if fits < 500 || fits > 2500 {
		t.Errorf("%d purses fit", fits)
	}
}
