package lure_test

import (
	"math"
	"math/rand/v2"
	"slices"
	"testing"

	"wigeon/api"
	"wigeon/lure"
)

// count returns the numbers from 0 to n - 1.
func count(n int) []int {
	var l []int
	for i := range n {
		l = append(l, i)
	}
	return l
}

func TestRanks(t *testing.T) {
	ducksRing := line(3, 1)
	ducksRing.Moves[0] = []int{0, 1}
	for _, c := range []struct {
		g          api.Game
		goal, want []int
	}{
		{first(), []int{3}, []int{2, 3, 1, 0}},
		{second(), []int{3}, []int{-1, -1, 1, 0}},
		{first(), nil, []int{-1, -1, -1, -1}},
		{first(), []int{}, []int{-1, -1, -1, -1}},
		{first(), count(4), []int{0, 0, 0, 0}},
		// A place of the goal has the rank 0 wherever it leads.
		{first(), []int{0}, []int{0, -1, -1, -1}},
		{first(), []int{0, 3}, []int{0, 1, 1, 0}},
		{line(16, 0), []int{0}, count(16)},
		{line(16, 1), []int{0}, count(16)},
		{line(1, 0), nil, []int{-1}},
		{line(1, 1), []int{0}, []int{0}},
		// The man takes the shortest way, the ducks the longest.
		{api.Game{Owner: []int{0, 0, 0, 0}, Moves: [][]int{{0}, {0}, {1}, {0, 1, 2}}}, []int{0}, []int{0, 1, 2, 1}},
		{api.Game{Owner: []int{1, 1, 1, 1}, Moves: [][]int{{0}, {0}, {1}, {0, 1, 2}}}, []int{0}, []int{0, 1, 2, 3}},
		// At a place that leads to itself the ducks can stay; the man need not.
		{api.Game{Owner: []int{0, 1}, Moves: [][]int{{0}, {0, 1}}}, []int{0}, []int{0, -1}},
		{api.Game{Owner: []int{1, 0}, Moves: [][]int{{0}, {0, 1}}}, []int{0}, []int{0, 1}},
		{ducksRing, []int{0}, []int{0, 1, 2}},
		{ducksRing, []int{2}, []int{-1, -1, 0}},
	} {
		if l, e := lure.Ranks(c.g, c.goal); !slices.Equal(l, c.want) || e != api.OK {
			t.Errorf("Ranks(%v, %v): %v, %d, want %v", c.g, c.goal, l, e, c.want)
		}
	}
}

func TestSetsOfRanks(t *testing.T) {
	look := func(g api.Game, goal []int) {
		want := wantRanks(g, goal)
		if l := call(t, "Ranks", g, goal); !slices.Equal(l, want) {
			t.Fatalf("Ranks(%v, %v): %v, want %v", g, goal, l, want)
		}
		wins := atMost(want, 100)
		if l := call(t, "Wins", g, goal); !slices.Equal(l, wins) {
			t.Fatalf("Wins(%v, %v): %v, want %v", g, goal, l, wins)
		}
		if l := call(t, "Free", g, goal); !slices.Equal(l, without(g, wins)) {
			t.Fatalf("Free(%v, %v): %v, want %v", g, goal, l, without(g, wins))
		}
		for _, moves := range []int{0, 1, 2, 3, 7, 15, 16, 17, 99, 100} {
			given, set := cloneGame(g), slices.Clone(goal)
			l, e := lure.Within(g, goal, moves)
			if !slices.Equal(l, atMost(want, moves)) || e != api.OK {
				t.Fatalf("Within(%v, %v, %d): %v, %d, ranks %v", g, goal, moves, l, e, want)
			}
			if !sameGame(g, given) || !slices.Equal(goal, set) {
				t.Fatalf("Within(%v, %v, %d) changed an argument", given, set, moves)
			}
		}
	}
	smallGames(look)
	someGames(2000, 16, look)
}

func TestWithin(t *testing.T) {
	for moves, want := range [][]int{{3}, {2, 3}, {0, 2, 3}, {0, 1, 2, 3}, {0, 1, 2, 3}} {
		if l, e := lure.Within(first(), []int{3}, moves); !slices.Equal(l, want) || e != api.OK {
			t.Errorf("Within %d: %v, %d, want %v", moves, l, e, want)
		}
	}
	// The greatest rank of all games is 15.
	for moves := range 101 {
		want := count(min(moves, 15) + 1)
		if l, e := lure.Within(line(16, moves%2), []int{0}, moves); !slices.Equal(l, want) || e != api.OK {
			t.Errorf("Within %d of a line: %v, %d, want %v", moves, l, e, want)
		}
	}
	for _, moves := range []int{-1, -100, 101, 1000, math.MaxInt, math.MinInt} {
		for _, goal := range [][]int{nil, {3}, {4}} {
			if l, e := lure.Within(first(), goal, moves); len(l) != 0 || e != api.ErrArg {
				t.Errorf("Within %d: %v, %d", moves, l, e)
			}
		}
	}
}

func TestBefore(t *testing.T) {
	for _, c := range []struct{ set, want []int }{
		{nil, nil}, {[]int{0}, nil}, {[]int{1}, []int{0}}, {[]int{3}, []int{2, 3}},
		{[]int{0, 3}, []int{1, 2, 3}}, {[]int{0, 1, 2}, []int{0}}, {count(4), count(4)},
	} {
		if l, e := lure.Before(first(), c.set); !slices.Equal(l, c.want) || e != api.OK {
			t.Errorf("Before(%v): %v, %d, want %v", c.set, l, e, c.want)
		}
	}
	look := func(g api.Game, set []int) {
		var want []int
		for p, owner := range g.Owner {
			if owner == 0 && some(g.Moves[p], in(set)) || owner == 1 && all(g.Moves[p], in(set)) {
				want = append(want, p)
			}
		}
		if l := call(t, "Before", g, set); !slices.Equal(l, want) {
			t.Fatalf("Before(%v, %v): %v, want %v", g, set, l, want)
		}
	}
	smallGames(look)
	someGames(500, 16, look)
}

func TestCheckRanks(t *testing.T) {
	for _, c := range []struct {
		goal, ranks []int
		want        api.Errno
	}{
		{[]int{3}, []int{2, 3, 1, 0}, api.OK},
		// Numbers may be greater than the ranks, and wins may be left out.
		{[]int{3}, []int{15, 16, 14, 0}, api.OK},
		{[]int{3}, []int{-1, -1, -1, -1}, api.OK},
		{[]int{3}, []int{-1, -1, 1, 0}, api.OK},
		{nil, []int{-1, -1, -1, -1}, api.OK},
		// A place of the goal may have a number of its own, with a proof.
		{[]int{2, 3}, []int{2, 3, 1, 0}, api.OK},
		{[]int{2, 3}, []int{1, 2, 0, 0}, api.OK},
		{[]int{3}, []int{-1, -1, -1, 1}, api.ErrProof},
		// 0 outside of the goal; a number that is not above that of a move; a
		// move of the ducks without a number.
		{nil, []int{-1, -1, -1, 0}, api.ErrProof},
		{[]int{3}, []int{0, 3, 1, 0}, api.ErrProof},
		{[]int{3}, []int{1, 3, 1, 0}, api.ErrProof},
		{[]int{3}, []int{2, 2, 1, 0}, api.ErrProof},
		{[]int{3}, []int{-1, 3, 1, 0}, api.ErrProof},
		{[]int{3}, []int{2, 3, -1, 0}, api.ErrProof},
		{[]int{3}, []int{2, 3, 1, -1}, api.ErrProof},
		{[]int{3}, nil, api.ErrArg},
		{[]int{3}, []int{2, 3, 1}, api.ErrArg},
		{[]int{3}, []int{2, 3, 1, 0, -1}, api.ErrArg},
		// What is no list of numbers comes before what does not hold.
		{nil, []int{0, 0, 0, 17}, api.ErrArg},
		{nil, []int{0, 0, 0, -2}, api.ErrArg},
	} {
		if e := lure.CheckRanks(first(), c.goal, c.ranks); e != c.want {
			t.Errorf("CheckRanks(%v, %v): %d, want %d", c.goal, c.ranks, e, c.want)
		}
	}
	for _, n := range []int{-2, 17, 18, 1 << 32, math.MaxInt, math.MinInt} {
		for p := range 4 {
			ranks := []int{2, 3, 1, 0}
			ranks[p] = n
			if e := lure.CheckRanks(first(), []int{3}, ranks); e != api.ErrArg {
				t.Errorf("CheckRanks of %v: %d", ranks, e)
			}
		}
	}
}

// TestCheckRanksOfGames tests lists of numbers, those that prove wins and
// others, and that the man wins from all places with a number that is proved.
func TestCheckRanksOfGames(t *testing.T) {
	r := rand.New(rand.NewPCG(4, 1))
	proved, refuted := 0, 0
	look := func(g api.Game, goal []int) {
		ranks := wantRanks(g, goal)
		wins := atMost(ranks, 100)
		for try := range 12 {
			l := slices.Clone(ranks)
			if try%4 == 0 {
				for p := range l {
					l[p] = r.IntN(len(l)+2) - 1
				}
			} else if try > 1 {
				l[r.IntN(len(l))] = r.IntN(18) - 1
			}
			want := api.ErrProof
			if wantProvesWins(g, goal, l) {
				want = api.OK
				proved++
			} else {
				refuted++
			}
			given, game, set := slices.Clone(l), cloneGame(g), slices.Clone(goal)
			if e := lure.CheckRanks(g, goal, l); e != want || try == 1 && e != api.OK {
				t.Fatalf("CheckRanks(%v, %v, %v): %d, want %d", g, goal, l, e, want)
			}
			if !slices.Equal(l, given) || !sameGame(g, game) || !slices.Equal(goal, set) {
				t.Fatalf("CheckRanks(%v, %v, %v) changed an argument", game, set, given)
			}
			if want == api.OK && !all(atMost(l, 100), in(wins)) {
				t.Fatalf("%v prove more than the wins %v of %v, goal %v", l, wins, g, goal)
			}
		}
	}
	smallGames(look)
	someGames(500, 16, look)
	if proved < 1000 || refuted < 1000 {
		t.Errorf("%d lists prove wins, %d do not", proved, refuted)
	}
}

func TestCheckTrap(t *testing.T) {
	for _, c := range []struct {
		g          api.Game
		goal, trap []int
		want       api.Errno
	}{
		{second(), []int{3}, []int{0, 1}, api.OK},
		{second(), []int{3}, nil, api.OK},
		{second(), nil, []int{0, 1}, api.OK},
		{second(), nil, []int{3}, api.OK},
		{second(), nil, count(4), api.OK},
		{first(), nil, count(4), api.OK},
		// The man can move out; the ducks must leave; the goal is in it.
		{first(), []int{3}, []int{0, 1}, api.ErrProof},
		{second(), []int{3}, []int{0}, api.ErrProof},
		{second(), []int{3}, []int{1}, api.ErrProof},
		{second(), []int{3}, []int{0, 1, 2}, api.ErrProof},
		{second(), []int{3}, []int{0, 1, 3}, api.ErrProof},
		{second(), []int{0, 3}, []int{0, 1}, api.ErrProof},
		{line(1, 0), []int{0}, []int{0}, api.ErrProof},
		{line(1, 0), nil, []int{0}, api.OK},
		{line(1, 1), nil, []int{0}, api.OK},
	} {
		if e := lure.CheckTrap(c.g, c.goal, c.trap); e != c.want {
			t.Errorf("CheckTrap(%v, %v, %v): %d, want %d", c.g, c.goal, c.trap, e, c.want)
		}
	}
}

// TestCheckTrapOfGames tests all sets of places, and that Free is a trap that
// contains all others.
func TestCheckTrapOfGames(t *testing.T) {
	look := func(g api.Game, goal []int) {
		isTrap := func(set []int) bool { return wantIsTrap(g, goal, set) }
		for bits := range 1 << len(g.Owner) {
			trap := subset(len(g.Owner), bits)
			want := api.ErrProof
			if isTrap(trap) {
				want = api.OK
			}
			given, game, set := slices.Clone(trap), cloneGame(g), slices.Clone(goal)
			if e := lure.CheckTrap(g, goal, trap); e != want {
				t.Fatalf("CheckTrap(%v, %v, %v): %d, want %d", g, goal, trap, e, want)
			}
			if !slices.Equal(trap, given) || !sameGame(g, game) || !slices.Equal(goal, set) {
				t.Fatalf("CheckTrap(%v, %v, %v) changed an argument", game, set, given)
			}
		}
		if l := call(t, "Free", g, goal); !slices.Equal(l, wantUnion(len(g.Owner), isTrap)) || !isTrap(l) {
			t.Fatalf("Free(%v, %v): %v is not the greatest trap", g, goal, l)
		}
	}
	smallGames(look)
	someGames(500, 7, look)
}

// TestWinsOrFree tests S4: from each place either the man wins or the ducks
// keep free, and each is proved.
func TestWinsOrFree(t *testing.T) {
	won, free := 0, 0
	look := func(g api.Game, goal []int) {
		wins, traps := call(t, "Wins", g, goal), call(t, "Free", g, goal)
		for p := range g.Owner {
			if slices.Contains(wins, p) == slices.Contains(traps, p) {
				t.Fatalf("the place %d of %v, goal %v: wins %v, free %v", p, g, goal, wins, traps)
			}
		}
		ranks := call(t, "Ranks", g, goal)
		if e := lure.CheckRanks(g, goal, ranks); e != api.OK || !slices.Equal(atMost(ranks, 100), wins) {
			t.Fatalf("CheckRanks(%v, %v, %v): %d, wins %v", g, goal, ranks, e, wins)
		}
		if e := lure.CheckTrap(g, goal, traps); e != api.OK {
			t.Fatalf("CheckTrap(%v, %v, %v): %d", g, goal, traps, e)
		}
		won += len(wins)
		free += len(traps)
	}
	smallGames(look)
	someGames(2000, 16, look)
	if won < 1000 || free < 1000 {
		t.Errorf("%d places are won, %d are free", won, free)
	}
}
