package lure_test

import (
	"slices"
	"testing"

	"wigeon/api"
	"wigeon/lure"
)

func TestValidate(t *testing.T) {
	for _, g := range []api.Game{
		first(), second(), line(1, 0), line(1, 1), line(16, 0), line(16, 1),
		{Owner: []int{1, 0}, Moves: [][]int{{0, 1}, {0, 1}}},
	} {
		if e := lure.Validate(g); e != api.OK {
			t.Errorf("Validate(%v): %d", g, e)
		}
	}
	for name, c := range wrongGames() {
		if e := lure.Validate(c.g); e != c.e {
			t.Errorf("Validate, %s: %d, want %d", name, e, c.e)
		}
	}
}

// TestErrorsOfGames tests that the errors of a game come before all others.
func TestErrorsOfGames(t *testing.T) {
	for name, c := range wrongGames() {
		for _, set := range [][]int{nil, {0}, {9, 9}, {-1}} {
			for what, f := range ofSets() {
				if l, e := f(c.g, set); len(l) != 0 || e != c.e {
					t.Errorf("%s of %v, %s: %v, %d, want %d", what, set, name, l, e, c.e)
				}
			}
			for _, moves := range []int{0, 101} {
				if l, e := lure.Within(c.g, set, moves); len(l) != 0 || e != c.e {
					t.Errorf("Within %d of %v, %s: %v, %d, want %d", moves, set, name, l, e, c.e)
				}
				if l, e := lure.Play(c.g, set, set, moves, moves); len(l) != 0 || e != c.e {
					t.Errorf("Play, %s: %v, %d, want %d", name, l, e, c.e)
				}
			}
			if e := lure.CheckRanks(c.g, set, set); e != c.e {
				t.Errorf("CheckRanks, %s: %d, want %d", name, e, c.e)
			}
			if e := lure.CheckTrap(c.g, set, set); e != c.e {
				t.Errorf("CheckTrap, %s: %d, want %d", name, e, c.e)
			}
		}
		if g, e := lure.Exchange(c.g); !isNoGame(g) || e != c.e {
			t.Errorf("Exchange, %s: %v, %d, want %d", name, g, e, c.e)
		}
		if s, e := lure.Format(c.g); s != "" || e != c.e {
			t.Errorf("Format, %s: %q, %d, want %d", name, s, e, c.e)
		}
	}
}

func TestErrorsOfSets(t *testing.T) {
	for _, g := range []api.Game{first(), line(1, 1), line(2, 0), line(16, 0)} {
		count := len(g.Owner)
		ranks := slices.Repeat([]int{-1}, count)
		for _, set := range wrongSets(count) {
			for what, f := range ofSets() {
				if l, e := f(g, set); len(l) != 0 || e != api.ErrArg {
					t.Errorf("%s of %v in %d places: %v, %d", what, set, count, l, e)
				}
			}
			if l, e := lure.Within(g, set, 3); len(l) != 0 || e != api.ErrArg {
				t.Errorf("Within of %v in %d places: %v, %d", set, count, l, e)
			}
			if e := lure.CheckRanks(g, set, ranks); e != api.ErrArg {
				t.Errorf("CheckRanks of %v in %d places: %d", set, count, e)
			}
			if e := lure.CheckTrap(g, set, nil); e != api.ErrArg {
				t.Errorf("CheckTrap with the goal %v in %d places: %d", set, count, e)
			}
			// What is no set comes before what is no trap.
			if e := lure.CheckTrap(g, []int{0}, set); e != api.ErrArg {
				t.Errorf("CheckTrap of %v in %d places: %d", set, count, e)
			}
		}
	}
}

func TestExchange(t *testing.T) {
	g, e := lure.Exchange(second())
	want := api.Game{Owner: []int{1, 0, 0, 1}, Moves: [][]int{{1}, {0, 3}, {3}, {3}}}
	if !sameGame(g, want) || e != api.OK {
		t.Errorf("Exchange: %v, %d, want %v", g, e, want)
	}
	someGames(200, 16, func(g api.Game, goal []int) {
		given := cloneGame(g)
		other, e := lure.Exchange(g)
		if e != api.OK || slices.ContainsFunc(other.Owner, func(o int) bool { return o != 0 && o != 1 }) {
			t.Fatalf("Exchange(%v): %v, %d", g, other, e)
		}
		for p := range g.Owner {
			if other.Owner[p] == g.Owner[p] || !slices.Equal(other.Moves[p], g.Moves[p]) {
				t.Fatalf("Exchange(%v): %v", g, other)
			}
		}
		back, _ := lure.Exchange(other)
		checkOwnMemory(t, other)
		if !sameGame(back, given) || !sameGame(g, given) {
			t.Fatalf("Exchange of Exchange of %v: %v", given, back)
		}
	})
}

// checkOwnMemory tests that what is written to or behind one list of a game is
// not felt by the others.
func checkOwnMemory(t *testing.T, g api.Game) {
	t.Helper()
	given := cloneGame(g)
	for p := range g.Moves {
		l := append(g.Moves[p], -5)
		g.Moves[p] = l
		for i := range l {
			l[i] = -5
		}
		for q := p + 1; q < len(g.Moves); q++ {
			if !slices.Equal(g.Moves[q], given.Moves[q]) {
				t.Fatalf("the moves %d and %d of %v share memory", p, q, given)
			}
		}
	}
	for p := range g.Owner {
		g.Owner[p] = -5
	}
}
