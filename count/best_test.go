package count_test

import (
	"math"
	"slices"
	"testing"

	"wigeon/api"
	"wigeon/count"
)

func TestBest(t *testing.T) {
	for _, x := range []struct {
		marked, caught, again, want int
		ok                          bool
	}{
		{4, 5, 2, 9, true}, {5, 4, 2, 9, true}, {4, 5, 3, 6, true}, {2, 2, 2, 2, true}, {4, 4, 2, 7, true},
		// Nothing is known but what was seen, or all numbers are alike.
		{0, 0, 0, 0, true}, {0, 3, 0, 3, true}, {3, 0, 0, 3, true}, {60, 60, 60, 60, true}, {0, 60, 0, 60, true},
		// The greatest chance is that of more birds than the limit.
		{3, 4, 0, 60, true}, {10, 10, 1, 60, true}, {30, 30, 0, 60, true}, {30, 30, 15, 59, true}, {30, 31, 1, 60, true},
		// There is no number.
		{3, 2, 3, 0, false}, {2, 3, 3, 0, false}, {0, 0, 1, 0, false}, {60, 1, 0, 0, false}, {60, 30, 0, 0, false}, {31, 31, 1, 0, false}, {60, 60, 59, 0, false}, {1, 1, 60, 0, false},
	} {
		if n, ok, e := count.Best(x.marked, x.caught, x.again); n != x.want || ok != x.ok || e != api.OK {
			t.Errorf("Best of %v: %d, %t, %d", x, n, ok, e)
		}
	}
}

// wantBest returns the number of birds that no other one beats.
func wantBest(marked, caught, again int) (int, bool) {
	if again > marked || again > caught || marked+caught-again > 60 {
		return 0, false
	}
	best := marked + caught - again
	greatest := wantChance(best, marked, caught, again)
	for birds := best + 1; birds <= 60; birds++ {
		if c := wantChance(birds, marked, caught, again); c.Cmp(greatest) > 0 {
			best, greatest = birds, c
		}
	}
	return best, true
}

// TestBestIsNotBeaten tests the first half of S6.
func TestBestIsNotBeaten(t *testing.T) {
	for marked := range 61 {
		for caught := range marked + 1 {
			for again := range min(caught+2, 61) {
				want, found := wantBest(marked, caught, again)
				n, ok, e := count.Best(marked, caught, again)
				if n != want || ok != found || e != api.OK {
					t.Fatalf("Best(%d, %d, %d): %d, %t, %d, want %d, %t", marked, caught, again, n, ok, e, want, found)
				}
				if n, ok, e := count.Best(caught, marked, again); n != want || ok != found || e != api.OK {
					t.Fatalf("Best(%d, %d, %d): %d, %t, %d, want %d, %t", caught, marked, again, n, ok, e, want, found)
				}
				if found {
					checkBest(t, marked, caught, again, n)
				}
			}
		}
	}
}

// checkBest tests the best number against what follows for it, and against what
// Chance returns for its neighbors.
func checkBest(t *testing.T, marked, caught, again, best int) {
	t.Helper()
	if again > 0 {
		want := min(60, marked*caught/again)
		if want*again == marked*caught && want > marked+caught-again {
			want--
		}
		if best != want {
			t.Fatalf("Best(%d, %d, %d): %d, want %d", marked, caught, again, best, want)
		}
	}
	greatest := chance(t, best, marked, caught, again)
	if best > marked+caught-again && chance(t, best-1, marked, caught, again).Cmp(greatest) >= 0 {
		t.Fatalf("Best(%d, %d, %d): %d, but one bird less is as likely", marked, caught, again, best)
	}
	if best < 60 && chance(t, best+1, marked, caught, again).Cmp(greatest) > 0 {
		t.Fatalf("Best(%d, %d, %d): %d, but one more bird is more likely", marked, caught, again, best)
	}
}

func TestOdds(t *testing.T) {
	for birds, want := range map[int]api.Rat{8: {Num: 3, Den: 2}, 10: {Num: 1, Den: 1}, 11: {Num: 21, Den: 22}} {
		if r, e := count.Odds(birds, 4, 5, 2); r != want || e != api.OK {
			t.Errorf("Odds(%d, 4, 5, 2): %v, %d, want %v", birds, r, e, want)
		}
	}
	eachFour(someNumbers, func(birds, marked, caught, again int) {
		r, e := count.Odds(birds, marked, caught, again)
		if marked > birds-1 || caught > birds-1 {
			if r != (api.Rat{}) || e != api.ErrRule {
				t.Fatalf("Odds(%d, %d, %d, %d): %v, %d", birds, marked, caught, again, r, e)
			}
			return
		}
		less := wantChance(birds-1, marked, caught, again)
		if less.Sign() == 0 {
			if r != (api.Rat{}) || e != api.ErrZero {
				t.Fatalf("Odds(%d, %d, %d, %d): %v, %d", birds, marked, caught, again, r, e)
			}
			return
		}
		want := less.Quo(wantChance(birds, marked, caught, again), less)
		if !isRat(r, want) || e != api.OK {
			t.Fatalf("Odds(%d, %d, %d, %d): %v, %d, want %v", birds, marked, caught, again, r, e, want)
		}
	})
}

func TestChapman(t *testing.T) {
	for _, x := range []struct {
		marked, caught, again int
		want                  api.Rat
	}{
		{4, 5, 2, api.Rat{Num: 9, Den: 1}}, {4, 4, 3, api.Rat{Num: 21, Den: 4}}, {0, 0, 0, api.Rat{Num: 0, Den: 1}},
		{60, 60, 0, api.Rat{Num: 3720, Den: 1}}, {60, 60, 60, api.Rat{Num: 60, Den: 1}}, {60, 59, 59, api.Rat{Num: 60, Den: 1}}, {7, 0, 0, api.Rat{Num: 7, Den: 1}},
	} {
		if r, e := count.Chapman(x.marked, x.caught, x.again); r != x.want || e != api.OK {
			t.Errorf("Chapman of %v: %v, %d", x, r, e)
		}
	}
	for marked := range 61 {
		for caught := range 61 {
			for again := range 61 {
				r, e := count.Chapman(marked, caught, again)
				if again > marked || again > caught {
					if r != (api.Rat{}) || e != api.ErrRule {
						t.Fatalf("Chapman(%d, %d, %d): %v, %d", marked, caught, again, r, e)
					}
					continue
				}
				want := ratOf((marked+1)*(caught+1), again+1)
				if !isRat(r, want.Sub(want, ratOf(1, 1))) || e != api.OK {
					t.Fatalf("Chapman(%d, %d, %d): %v, %d, want %v", marked, caught, again, r, e, want)
				}
			}
		}
	}
}

// upTo returns the set of the numbers from one to another.
func upTo(from, to int) []int {
	var l []int
	for n := from; n <= to; n++ {
		l = append(l, n)
	}
	return l
}

// wantPossible returns the numbers of birds with which both chances are above
// the level.
func wantPossible(marked, caught, again int, level api.Rat) []int {
	var l []int
	for birds := marked + caught - again; birds <= 60; birds++ {
		few := wantAtMost(birds, marked, caught, again)
		many := ratOf(1, 1)
		if again > 0 {
			many.Sub(many, wantAtMost(birds, marked, caught, again-1))
		}
		limit := ratOf(level.Num, level.Den)
		if few.Cmp(limit) > 0 && many.Cmp(limit) > 0 {
			l = append(l, birds)
		}
	}
	return l
}

func TestPossible(t *testing.T) {
	for _, x := range []struct {
		marked, caught, again int
		level                 api.Rat
		want                  []int
	}{
		// The chance is 1 divided by the birds: a tenth itself is not above it.
		{1, 1, 1, api.Rat{Num: 1, Den: 10}, upTo(1, 9)},
		{1, 1, 1, api.Rat{Num: 1, Den: 1}, nil},
		{1, 1, 1, api.Rat{Num: 999, Den: 1000}, []int{1}},
		{1, 1, 1, api.Rat{Num: 1, Den: 1000}, upTo(1, 60)},
		// And here it is 1 less that.
		{1, 1, 0, api.Rat{Num: 9, Den: 10}, upTo(11, 60)},
		{1, 1, 0, api.Rat{Num: 1, Den: 1}, nil},
		{0, 0, 0, api.Rat{Num: 999, Den: 1000}, upTo(0, 60)},
		{0, 0, 0, api.Rat{Num: 1, Den: 1}, nil},
		{4, 5, 2, api.Rat{Num: 0, Den: 1}, upTo(7, 60)},
		{60, 60, 60, api.Rat{Num: 1, Den: 2}, []int{60}},
		{60, 60, 0, api.Rat{Num: 0, Den: 1}, nil},
		{31, 30, 0, api.Rat{Num: 0, Den: 1}, nil},
		{30, 30, 0, api.Rat{Num: 0, Den: 1}, []int{60}},
	} {
		if l, e := count.Possible(x.marked, x.caught, x.again, x.level); !slices.Equal(l, x.want) || e != api.OK {
			t.Errorf("Possible of %v: %v, %d", x, l, e)
		}
	}
}

func TestPossibleOfSome(t *testing.T) {
	levels := []api.Rat{{Num: 0, Den: 1}, {Num: 1, Den: 1}, {Num: 1, Den: 2}, {Num: 1, Den: 20}, {Num: 1, Den: 1000}, {Num: 999, Den: 1000}, {Num: 499, Den: 999}, {Num: 11, Den: 42}, {Num: 31, Den: 42}, {Num: 501, Den: 1000}, {Num: 487, Den: 997}}
	for _, marked := range someNumbers {
		for _, caught := range someNumbers {
			for _, again := range someNumbers {
				for _, level := range levels {
					checkPossible(t, marked, caught, again, level)
				}
			}
		}
	}
}

// checkPossible tests what Possible returns for numbers of birds and a level.
func checkPossible(t *testing.T, marked, caught, again int, level api.Rat) {
	t.Helper()
	l, e := count.Possible(marked, caught, again, level)
	if again > marked || again > caught {
		if len(l) != 0 || e != api.ErrRule {
			t.Fatalf("Possible(%d, %d, %d, %v): %v, %d", marked, caught, again, level, l, e)
		}
		return
	}
	want := wantPossible(marked, caught, again, level)
	if !slices.Equal(l, want) || e != api.OK {
		t.Fatalf("Possible(%d, %d, %d, %v): %v, %d, want %v", marked, caught, again, level, l, e, want)
	}
	if level.Num == 0 && !slices.Equal(l, upTo(marked+caught-again, 60)) {
		t.Fatalf("Possible(%d, %d, %d, %v): %v are not all", marked, caught, again, level, l)
	}
}

func TestNotLevels(t *testing.T) {
	levels := []api.Rat{
		{}, {Num: 1}, {Num: 0, Den: 2}, {Num: 0, Den: -1}, {Num: 2, Den: 4}, {Num: 2, Den: 2}, {Num: 1000, Den: 1000}, {Num: 500, Den: 1000},
		{Num: -1, Den: 2}, {Num: -1, Den: 1}, {Num: 1, Den: -2}, {Num: -1, Den: -2}, {Num: 3, Den: 2}, {Num: 2, Den: 1}, {Num: 1001, Den: 1000},
		{Num: 1, Den: 1001}, {Num: 1000, Den: 1001}, {Num: 1, Den: math.MaxInt}, {Num: 1, Den: math.MinInt}, {Num: math.MaxInt, Den: 1}, {Num: math.MinInt, Den: 1}, {Num: math.MinInt, Den: math.MinInt},
	}
	for _, level := range levels {
		for _, l := range [][3]int{{4, 5, 2}, {0, 0, 0}, {3, 2, 3}, {60, 60, 0}, {61, 2, 2}} {
			if numbers, e := count.Possible(l[0], l[1], l[2], level); len(numbers) != 0 || e != api.ErrArg {
				t.Errorf("Possible of %v at %v: %v, %d", l, level, numbers, e)
			}
		}
	}
}
