package flyway_test

import (
	"math/big"
	"slices"
	"testing"

	"wigeon/api"
	"wigeon/flyway"
)

func TestWithout(t *testing.T) {
	short := [][]int{{0, 1, 0}, {1, 0, 1}, {0, 0, 1}}
	for _, x := range []struct {
		c    [][]int
		i    int
		want [][]int
		e    api.Errno
	}{
		{short, 1, [][]int{{1, 1}, {0, 1}}, api.OK},
		{short, 0, [][]int{{1, 1}, {0, 1}}, api.OK},
		{short, 2, nil, api.ErrState},
		{line(), 0, [][]int{{1, 1}, {0, 1}}, api.OK},
		{line(), 1, [][]int{{1, 1}, {0, 1}}, api.OK},
		{ring(), 0, [][]int{{1}}, api.OK},
		// A weight may be above the limit only before the row is divided.
		{walk(), 2, nil, api.ErrArg},
		{walk(), 1, nil, api.ErrArg},
		{[][]int{{2, 2, 2}, {2, 2, 2}, {2, 2, 2}}, 1, [][]int{{1, 1}, {1, 1}}, api.OK},
		{[][]int{{0, 1, 2}, {1, 1, 2}, {0, 0, 3}}, 1, [][]int{{1, 8}, {0, 1}}, api.ErrArg},
		{[][]int{{0, 1, 1}, {1, 0, 1}, {0, 0, 3}}, 1, [][]int{{1, 3}, {0, 1}}, api.OK},
		{[][]int{{1, 1, 1}, {1, 0, 1}, {0, 0, 3}}, 1, [][]int{{1, 1}, {0, 1}}, api.OK},
		{[][]int{{0, 1, 1}, {1, 0, 2}, {0, 0, 3}}, 1, [][]int{{1, 5}, {0, 1}}, api.ErrArg},
		{[][]int{{1}}, 0, nil, api.ErrState},
		{[][]int{{3}}, 0, nil, api.ErrState},
		{fork(), 1, nil, api.ErrState},
		{fork(), 0, [][]int{{1, 0}, {0, 1}}, api.OK},
		{trap(), 4, [][]int{{0, 1, 1, 0}, {0, 1, 0, 0}, {0, 0, 0, 1}, {0, 0, 1, 0}}, api.OK},
	} {
		if x.e != api.OK {
			x.want = nil
		}
		if l, e := flyway.Without(x.c, x.i); !areEqual(l, x.want) || e != x.e {
			t.Errorf("Without(%v, %d): %v, %d, want %v, %d", x.c, x.i, l, e, x.want, x.e)
		}
	}
}

// wantRowWithout returns the weights of a place in the chain without another
// one: the chance to come to each other place next, whatever number of times one
// is at the one that is left out, written with the smallest weights.
func wantRowWithout(c [][]int, i, x int) []int {
	var chances []*big.Rat
	den := big.NewInt(1)
	leave := new(big.Rat).Sub(big.NewRat(1, 1), ratOf(c[x][x], sumOf(c[x])))
	for j := range c {
		if j == x {
			continue
		}
		chance := new(big.Rat).Mul(ratOf(c[i][x], sumOf(c[i])), ratOf(c[x][j], sumOf(c[x])))
		chance.Quo(chance, leave)
		chance.Add(chance, ratOf(c[i][j], sumOf(c[i])))
		chances = append(chances, chance)
		common := new(big.Int).GCD(nil, nil, den, chance.Denom())
		den.Mul(den, new(big.Int).Quo(chance.Denom(), common))
	}
	var row []int
	for _, chance := range chances {
		weight := new(big.Rat).Mul(chance, new(big.Rat).SetInt(den))
		row = append(row, int(weight.Num().Int64()))
	}
	return row
}

func TestWithoutOfChains(t *testing.T) {
	seen := map[api.Errno]int{}
	look := func(c [][]int) {
		for x := range c {
			var want [][]int
			wantE := api.OK
			if wantIsEnd(c, x) {
				wantE = api.ErrState
			}
			for i := range c {
				if i == x || wantE == api.ErrState {
					continue
				}
				row := wantRowWithout(c, i, x)
				want = append(want, row)
				if slices.Max(row) > 3 {
					wantE = api.ErrArg
				}
			}
			if wantE != api.OK {
				want = nil
			}
			if l, e := flyway.Without(c, x); !areEqual(l, want) || e != wantE {
				t.Fatalf("Without(%v, %d): %v, %d, want %v, %d", c, x, l, e, want, wantE)
			}
			seen[wantE]++
		}
	}
	chains(look)
	allChains(3, 2, look)
	if seen[api.OK] < 1000 || seen[api.ErrArg] < 1000 || seen[api.ErrState] < 1000 {
		t.Errorf("the errors occur so often: %v", seen)
	}
}

// TestEndsStay tests that the chances to end at the other places stay.
func TestEndsStay(t *testing.T) {
	compared := 0
	look := func(c [][]int) {
		for x := range c {
			rest, e := flyway.Without(c, x)
			if e != api.OK {
				continue
			}
			others := slices.DeleteFunc([]int{0, 1, 2, 3, 4}[:len(c)], func(i int) bool { return i == x })
			for i, was := range others {
				for j, to := range others {
					before, e := flyway.EndChance(c, was, to)
					after, f := flyway.EndChance(rest, i, j)
					if e == api.OK && f == api.OK {
						compared++
						if before != after {
							t.Fatalf("EndChance(%v, %d, %d): %v, %v without %d", c, was, to, before, after, x)
						}
					}
				}
			}
		}
	}
	chains(look)
	allChains(3, 2, look)
	if compared < 1000 {
		t.Errorf("%d chances were compared", compared)
	}
}
