package count_test

import (
	"math/big"
	"testing"

	"wigeon/api"
	"wigeon/count"
)

func TestBinomial(t *testing.T) {
	for n, row := range triangle {
		for k, want := range row {
			if c, e := count.Binomial(n, k); c != want || e != api.OK {
				t.Errorf("Binomial(%d, %d): %d, %d, want %d", n, k, c, e, want)
			}
		}
	}
	for _, l := range append(withWrong(4, 2), withWrong(2, 4)...) {
		if c, e := count.Binomial(l[0], l[1]); c != 0 || e != api.ErrArg {
			t.Errorf("Binomial(%d, %d): %d, %d", l[0], l[1], c, e)
		}
	}
}

func TestWays(t *testing.T) {
	for _, x := range []struct{ birds, marked, caught, again, want int }{
		{10, 4, 5, 2, 120}, {10, 4, 5, 0, 6}, {0, 0, 0, 0, 1}, {60, 60, 30, 30, 118264581564861424}, {60, 0, 30, 0, 118264581564861424},
		// What doesn't fit: each part of the rule alone.
		{3, 4, 1, 1, 0}, {3, 4, 2, 2, 0}, {3, 2, 4, 2, 0}, {3, 1, 3, 2, 0}, {3, 3, 1, 2, 0}, {5, 3, 4, 1, 0}, {0, 1, 1, 1, 0}, {0, 0, 1, 0, 0}, {60, 60, 60, 0, 0},
	} {
		if n, e := count.Ways(x.birds, x.marked, x.caught, x.again); n != x.want || e != api.OK {
			t.Errorf("Ways of %v: %d, %d", x, n, e)
		}
	}
	eachFour(someNumbers, func(birds, marked, caught, again int) {
		want := wantWays(birds, marked, caught, again)
		if n, e := count.Ways(birds, marked, caught, again); n != want || e != api.OK {
			t.Fatalf("Ways(%d, %d, %d, %d): %d, %d, want %d", birds, marked, caught, again, n, e, want)
		}
	})
}

func TestWaysOfAllChoices(t *testing.T) {
	eachFour([]int{0, 1, 2, 3, 4, 5, 6, 7}, func(birds, marked, caught, again int) {
		want := wantEnumerated(birds, marked, caught, again)
		if n, e := count.Ways(birds, marked, caught, again); n != want || e != api.OK {
			t.Fatalf("Ways(%d, %d, %d, %d): %d, %d, want %d", birds, marked, caught, again, n, e, want)
		}
	})
}

// TestWaysAddUp tests that the ways of all again are all choices.
func TestWaysAddUp(t *testing.T) {
	for birds := range 61 {
		for marked := range birds + 1 {
			for _, caught := range []int{0, 1, birds / 3, birds / 2, birds} {
				if caught > birds {
					continue
				}
				ways := 0
				for again := range caught + 1 {
					n, e := count.Ways(birds, marked, caught, again)
					if e != api.OK {
						t.Fatalf("Ways(%d, %d, %d, %d): %d", birds, marked, caught, again, e)
					}
					ways += n
				}
				if ways != triangle[birds][caught] {
					t.Fatalf("%d of %d birds are caught, %d are marked: %d ways, want %d", caught, birds, marked, ways, triangle[birds][caught])
				}
			}
		}
	}
}

func TestChance(t *testing.T) {
	if r, e := count.Chance(10, 4, 5, 2); r != (api.Rat{Num: 10, Den: 21}) || e != api.OK {
		t.Errorf("the first example: %v, %d", r, e)
	}
	eachFour(someNumbers, func(birds, marked, caught, again int) {
		r, e := count.Chance(birds, marked, caught, again)
		if marked > birds || caught > birds {
			if r != (api.Rat{}) || e != api.ErrRule {
				t.Fatalf("Chance(%d, %d, %d, %d): %v, %d", birds, marked, caught, again, r, e)
			}
			return
		}
		if want := wantChance(birds, marked, caught, again); !isRat(r, want) || e != api.OK {
			t.Fatalf("Chance(%d, %d, %d, %d): %v, %d, want %v", birds, marked, caught, again, r, e, want)
		}
		if turned, e := count.Chance(birds, caught, marked, again); turned != r || e != api.OK {
			t.Fatalf("Chance(%d, %d, %d, %d): %v, %d, want %v", birds, caught, marked, again, turned, e, r)
		}
	})
}

func TestAtMost(t *testing.T) {
	for again, want := range []api.Rat{{Num: 1, Den: 42}, {Num: 11, Den: 42}, {Num: 31, Den: 42}, {Num: 41, Den: 42}, {Num: 1, Den: 1}, {Num: 1, Den: 1}} {
		if r, e := count.AtMost(10, 4, 5, again); r != want || e != api.OK {
			t.Errorf("AtMost(10, 4, 5, %d): %v, %d, want %v", again, r, e, want)
		}
	}
	eachFour(someNumbers, func(birds, marked, caught, again int) {
		r, e := count.AtMost(birds, marked, caught, again)
		if marked > birds || caught > birds {
			if r != (api.Rat{}) || e != api.ErrRule {
				t.Fatalf("AtMost(%d, %d, %d, %d): %v, %d", birds, marked, caught, again, r, e)
			}
			return
		}
		if want := wantAtMost(birds, marked, caught, again); !isRat(r, want) || e != api.OK {
			t.Fatalf("AtMost(%d, %d, %d, %d): %v, %d, want %v", birds, marked, caught, again, r, e, want)
		}
		if again >= marked && r != (api.Rat{Num: 1, Den: 1}) {
			t.Fatalf("AtMost(%d, %d, %d, %d): %v, want 1", birds, marked, caught, again, r)
		}
	})
}

func TestMean(t *testing.T) {
	for birds := range 61 {
		for marked := range 61 {
			for caught := range 61 {
				r, e := count.Mean(birds, marked, caught)
				switch {
				case marked > birds || caught > birds:
					if r != (api.Rat{}) || e != api.ErrRule {
						t.Fatalf("Mean(%d, %d, %d): %v, %d", birds, marked, caught, r, e)
					}
				case birds == 0:
					if r != (api.Rat{}) || e != api.ErrZero {
						t.Fatalf("Mean(%d, %d, %d): %v, %d", birds, marked, caught, r, e)
					}
				case !isRat(r, ratOf(marked*caught, birds)) || e != api.OK:
					t.Fatalf("Mean(%d, %d, %d): %v, %d", birds, marked, caught, r, e)
				}
			}
		}
	}
	for _, l := range append(withWrong(10, 4, 5), append(withWrong(0, 0, 0), withWrong(3, 4, 5)...)...) {
		if r, e := count.Mean(l[0], l[1], l[2]); r != (api.Rat{}) || e != api.ErrArg {
			t.Errorf("Mean of %v: %v, %d", l, r, e)
		}
	}
}

// TestMeanOfChances tests that the mean is that of the chances, which add up to 1.
func TestMeanOfChances(t *testing.T) {
	for _, x := range [][3]int{{1, 0, 1}, {1, 1, 1}, {10, 4, 5}, {10, 10, 10}, {23, 17, 9}, {59, 31, 20}, {60, 30, 30}} {
		sum, mean := new(big.Rat), new(big.Rat)
		for again := range x[2] + 1 {
			p := chance(t, x[0], x[1], x[2], again)
			sum.Add(sum, p)
			mean.Add(mean, p.Mul(p, ratOf(again, 1)))
		}
		r, e := count.Mean(x[0], x[1], x[2])
		if !isRat(r, mean) || e != api.OK || sum.Cmp(ratOf(1, 1)) != 0 {
			t.Errorf("Mean of %v: %v, %d, want %v; the chances add up to %v", x, r, e, mean, sum)
		}
	}
}

// TestNotNumbers tests that wrong numbers come before all other errors.
func TestNotNumbers(t *testing.T) {
	for _, of := range [][]int{{10, 4, 5, 2}, {3, 4, 5, 2}, {0, 0, 0, 0}, {10, 4, 5, 6}} {
		for _, l := range withWrong(of...) {
			if n, e := count.Ways(l[0], l[1], l[2], l[3]); n != 0 || e != api.ErrArg {
				t.Errorf("Ways of %v: %d, %d", l, n, e)
			}
			for name, f := range map[string]func(birds, marked, caught, again int) (api.Rat, api.Errno){"Chance": count.Chance, "AtMost": count.AtMost, "Odds": count.Odds} {
				if r, e := f(l[0], l[1], l[2], l[3]); r != (api.Rat{}) || e != api.ErrArg {
					t.Errorf("%s of %v: %v, %d", name, l, r, e)
				}
			}
		}
	}
	for _, of := range [][]int{{4, 5, 2}, {4, 5, 6}, {60, 60, 0}} {
		for _, l := range withWrong(of...) {
			if n, ok, e := count.Best(l[0], l[1], l[2]); n != 0 || ok || e != api.ErrArg {
				t.Errorf("Best of %v: %d, %t, %d", l, n, ok, e)
			}
			if r, e := count.Chapman(l[0], l[1], l[2]); r != (api.Rat{}) || e != api.ErrArg {
				t.Errorf("Chapman of %v: %v, %d", l, r, e)
			}
			if n, e := count.Possible(l[0], l[1], l[2], api.Rat{Num: 1, Den: 20}); len(n) != 0 || e != api.ErrArg {
				t.Errorf("Possible of %v: %v, %d", l, n, e)
			}
		}
	}
}
