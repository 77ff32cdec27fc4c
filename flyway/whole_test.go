package flyway_test

import (
	"math/big"
	"math/rand/v2"
	"slices"
	"testing"

	"wigeon/api"
	"wigeon/flyway"
)

func TestClasses(t *testing.T) {
	for _, x := range []struct {
		c    [][]int
		want [][]int
	}{
		{[][]int{{1}}, [][]int{{0}}},
		{ring(), [][]int{{0, 1}}},
		{line(), [][]int{{0}, {1}, {2}}},
		{walk(), [][]int{{0}, {1, 2}, {3}}},
		{trap(), [][]int{{0}, {1}, {2, 3}, {4}}},
		// The classes are not one after another.
		{[][]int{{0, 0, 0, 1}, {0, 0, 1, 0}, {0, 1, 0, 0}, {1, 0, 0, 0}}, [][]int{{0, 3}, {1, 2}}},
		{[][]int{{0, 0, 1, 0, 0}, {1, 1, 0, 0, 0}, {0, 0, 0, 0, 1}, {0, 1, 0, 1, 0}, {1, 0, 0, 0, 0}}, [][]int{{0, 2, 4}, {1}, {3}}},
	} {
		if l, e := flyway.Classes(x.c); !areEqual(l, x.want) || e != api.OK {
			t.Errorf("Classes(%v): %v, %d, want %v", x.c, l, e, x.want)
		}
	}
	whole, parted := 0, 0
	chains(func(c [][]int) {
		want := wantClasses(c)
		if l, e := flyway.Classes(c); !areEqual(l, want) || e != api.OK {
			t.Fatalf("Classes(%v): %v, %d, want %v", c, l, e, want)
		}
		if is, e := flyway.IsWhole(c); is != (len(want) == 1) || e != api.OK {
			t.Fatalf("IsWhole(%v): %t, %d", c, is, e)
		}
		if len(want) == 1 {
			whole++
		} else {
			parted++
		}
	})
	if whole < 500 || parted < 500 {
		t.Errorf("%d chains are whole, %d are not", whole, parted)
	}
}

func TestStill(t *testing.T) {
	for _, x := range []struct {
		c    [][]int
		want []api.Rat
	}{
		{[][]int{{3}}, []api.Rat{{Num: 1, Den: 1}}},
		{ring(), []api.Rat{{Num: 1, Den: 2}, {Num: 1, Den: 2}}},
		{[][]int{{1, 1}, {3, 0}}, []api.Rat{{Num: 2, Den: 3}, {Num: 1, Den: 3}}},
		// The weights do not count, but the chances.
		{[][]int{{0, 3, 0}, {1, 0, 1}, {0, 2, 0}}, []api.Rat{{Num: 1, Den: 4}, {Num: 1, Den: 2}, {Num: 1, Den: 4}}},
		{[][]int{{2, 2, 0}, {0, 0, 3}, {1, 0, 1}}, []api.Rat{{Num: 2, Den: 5}, {Num: 1, Den: 5}, {Num: 2, Den: 5}}},
	} {
		if l, e := flyway.Still(x.c); !slices.Equal(l, x.want) || e != api.OK {
			t.Errorf("Still(%v): %v, %d, want %v", x.c, l, e, x.want)
		}
	}
}

// TestWholeChains compares Still with what trees say, and tests that it adds up
// to 1 and does not change by one step, and that Return follows from it.
func TestWholeChains(t *testing.T) {
	one := big.NewRat(1, 1)
	chains(func(c [][]int) {
		if !wantIsWhole(c) {
			return
		}
		l, e := flyway.Still(c)
		if e != api.OK || len(l) != len(c) {
			t.Fatalf("Still(%v): %v, %d", c, l, e)
		}
		all := new(big.Rat)
		for j, want := range wantStill(c) {
			if !isRat(l[j], want) {
				t.Fatalf("Still(%v): %v, %v at %d", c, l, want, j)
			}
			all.Add(all, want)
			after := new(big.Rat)
			for i := range c {
				after.Add(after, new(big.Rat).Mul(ratOf(l[i].Num, l[i].Den), ratOf(c[i][j], sumOf(c[i]))))
			}
			if after.Cmp(want) != 0 {
				t.Fatalf("Still(%v): %v, after a step %v at %d", c, l, after, j)
			}
			if r, e := flyway.Return(c, j); !isRat(r, new(big.Rat).Inv(want)) || e != api.OK {
				t.Fatalf("Return(%v, %d): %v, %d, Still is %v", c, j, r, e, l)
			}
		}
		if all.Cmp(one) != 0 {
			t.Fatalf("Still(%v): %v, together %v", c, l, all)
		}
	})
}

// TestReturn compares Return with the time to an end, if the place becomes one
// as soon as it has been left.
func TestReturn(t *testing.T) {
	if r, e := flyway.Return([][]int{{1, 1}, {3, 0}}, 1); r != (api.Rat{Num: 3, Den: 1}) || e != api.OK {
		t.Errorf("Return: %v, %d", r, e)
	}
	if r, e := flyway.Return([][]int{{2}}, 0); r != (api.Rat{Num: 1, Den: 1}) || e != api.OK {
		t.Errorf("Return: %v, %d", r, e)
	}
	chains(func(c [][]int) {
		if !wantIsWhole(c) {
			return
		}
		for i := range c {
			closed := copyOf(c)
			clear(closed[i])
			closed[i][i] = 1
			want := big.NewRat(1, 1)
			for j, weight := range c[i] {
				time, e := flyway.Time(closed, j)
				if e != api.OK {
					t.Fatalf("Time(%v, %d): %d", closed, j, e)
				}
				want.Add(want, new(big.Rat).Mul(ratOf(weight, sumOf(c[i])), ratOf(time.Num, time.Den)))
			}
			if r, e := flyway.Return(c, i); !isRat(r, want) || e != api.OK {
				t.Fatalf("Return(%v, %d): %v, %d, want %v", c, i, r, e, want)
			}
		}
	})
}

// wheels calls a function with so many chains that are drawn, in which one goes
// around through some groups of places.
func wheels(times int, each func(c [][]int)) {
	r := rand.New(rand.NewPCG(7, 3))
	for range times {
		places, groups := r.IntN(5)+1, r.IntN(5)+1
		group := r.Perm(5)
		c := make([][]int, places)
		for i := range c {
			for j := range places {
				c[i] = append(c[i], 0)
				if (group[i]+1)%groups == group[j]%groups && r.IntN(4) > 0 {
					c[i][j] = r.IntN(3) + 1
				}
			}
		}
		if wantValid(c) == api.OK {
			each(c)
		}
	}
}

func TestRhythm(t *testing.T) {
	for _, x := range []struct {
		c    [][]int
		want int
	}{
		{[][]int{{1}}, 1}, {ring(), 2}, {[][]int{{1, 1}, {3, 0}}, 1},
		{[][]int{{0, 1, 0}, {0, 0, 1}, {1, 0, 0}}, 3},
		{[][]int{{0, 1, 0, 0, 0}, {0, 0, 1, 0, 0}, {0, 0, 0, 1, 0}, {0, 0, 0, 0, 1}, {1, 0, 0, 0, 0}}, 5},
		// Ways of 2 and 4 steps, of 2 and 3, and of 4 and 5.
		{[][]int{{0, 1, 0, 0}, {1, 0, 1, 0}, {0, 0, 0, 1}, {1, 0, 0, 0}}, 2},
		{[][]int{{0, 1, 0}, {1, 0, 1}, {1, 0, 0}}, 1},
		{[][]int{{0, 1, 0, 0, 0}, {0, 0, 1, 0, 0}, {0, 0, 0, 1, 0}, {1, 0, 0, 0, 1}, {1, 0, 0, 0, 0}}, 1},
	} {
		if n, e := flyway.Rhythm(x.c); n != x.want || e != api.OK {
			t.Errorf("Rhythm(%v): %d, %d, want %d", x.c, n, e, x.want)
		}
	}
	rhythms := make([]int, 6)
	look := func(c [][]int) {
		if !wantIsWhole(c) {
			return
		}
		n, e := flyway.Rhythm(c)
		for i := range c {
			if want := wantRhythm(c, i); n != want || e != api.OK {
				t.Fatalf("Rhythm(%v): %d, %d, want %d", c, n, e, want)
			}
		}
		rhythms[n]++
	}
	chains(look)
	wheels(1000, look)
	if slices.Min(rhythms[1:]) < 5 {
		t.Errorf("the rhythms occur so often: %v", rhythms)
	}
}

func TestNotWhole(t *testing.T) {
	look := func(c [][]int) {
		if wantIsWhole(c) {
			return
		}
		if l, e := flyway.Still(c); len(l) != 0 || e != api.ErrState {
			t.Fatalf("Still(%v): %v, %d", c, l, e)
		}
		if n, e := flyway.Rhythm(c); n != 0 || e != api.ErrState {
			t.Fatalf("Rhythm(%v): %d, %d", c, n, e)
		}
		for i := range c {
			if r, e := flyway.Return(c, i); r != (api.Rat{}) || e != api.ErrState {
				t.Fatalf("Return(%v, %d): %v, %d", c, i, r, e)
			}
		}
	}
	chains(look)
	// Two classes, one of which leads to the other, and two that do not.
	look([][]int{{1, 1}, {0, 1}})
	look([][]int{{1, 0}, {1, 1}})
	look([][]int{{1, 0}, {0, 1}})
}
