package lure_test

import (
	"math"
	"math/rand/v2"
	"slices"
	"testing"

	"wigeon/api"
	"wigeon/lure"
)

func TestPlan(t *testing.T) {
	look := func(g api.Game, goal []int) {
		ranks := wantRanks(g, goal)
		plan := call(t, "Plan", g, goal)
		if len(plan) != len(g.Owner) {
			t.Fatalf("Plan(%v, %v): %v", g, goal, plan)
		}
		for p, to := range plan {
			if g.Owner[p] == 1 || ranks[p] < 1 {
				if to != -1 {
					t.Fatalf("Plan(%v, %v): %v, a move from %d, ranks %v", g, goal, plan, p, ranks)
				}
			} else if !slices.Contains(g.Moves[p], to) || ranks[to] < 0 || ranks[to] >= ranks[p] {
				t.Fatalf("Plan(%v, %v): %v, the move from %d, ranks %v", g, goal, plan, p, ranks)
			}
		}
	}
	smallGames(look)
	someGames(2000, 16, look)
	// A move to a place without a rank does not do, though -1 is smaller.
	g := api.Game{Owner: []int{0, 0, 0}, Moves: [][]int{{0}, {0, 2}, {2}}}
	if l, e := lure.Plan(g, []int{2}); !slices.Equal(l, []int{-1, 2, -1}) || e != api.OK {
		t.Errorf("Plan(%v): %v, %d", g, l, e)
	}
}

func TestFlee(t *testing.T) {
	look := func(g api.Game, goal []int) {
		ranks := wantRanks(g, goal)
		plan := call(t, "Flee", g, goal)
		if len(plan) != len(g.Owner) {
			t.Fatalf("Flee(%v, %v): %v", g, goal, plan)
		}
		for p, to := range plan {
			if g.Owner[p] == 0 || ranks[p] >= 0 {
				if to != -1 {
					t.Fatalf("Flee(%v, %v): %v, a move from %d, ranks %v", g, goal, plan, p, ranks)
				}
			} else if !slices.Contains(g.Moves[p], to) || ranks[to] >= 0 {
				t.Fatalf("Flee(%v, %v): %v, the move from %d, ranks %v", g, goal, plan, p, ranks)
			}
		}
	}
	smallGames(look)
	someGames(2000, 16, look)
}

// somePlan returns a plan with moves and with numbers that are none.
func somePlan(r *rand.Rand, g api.Game) []int {
	var plan []int
	for _, moves := range g.Moves {
		to := moves[r.IntN(len(moves))]
		if r.IntN(4) == 0 {
			to = r.IntN(len(g.Owner)+2) - 1
		}
		if r.IntN(9) == 0 {
			to = notPlaces[r.IntN(len(notPlaces))]
		}
		plan = append(plan, to)
	}
	return plan
}

// play plays a game that must not fail, and compares it.
func play(t *testing.T, g api.Game, man, ducks []int, from, moves int) []int {
	t.Helper()
	game, m, d := cloneGame(g), slices.Clone(man), slices.Clone(ducks)
	want := wantPlay(g, man, ducks, from, moves)
	way, e := lure.Play(g, man, ducks, from, moves)
	if !slices.Equal(way, want) || e != api.OK {
		t.Fatalf("Play(%v, %v, %v, %d, %d): %v, %d, want %v", g, man, ducks, from, moves, way, e, want)
	}
	for i := range way {
		way[i] = -7
	}
	if !sameGame(g, game) || !slices.Equal(man, m) || !slices.Equal(ducks, d) {
		t.Fatalf("Play(%v, %v, %v, %d, %d) changed an argument", game, m, d, from, moves)
	}
	return want
}

// TestPlansHold tests that the goal is reached in as many moves as the rank
// says with Plan, whatever the ducks do, and never with Flee, whatever the man
// does.
func TestPlansHold(t *testing.T) {
	r := rand.New(rand.NewPCG(4, 2))
	look := func(g api.Game, goal []int) {
		ranks := wantRanks(g, goal)
		plan, flee := call(t, "Plan", g, goal), call(t, "Flee", g, goal)
		for from, rank := range ranks {
			other := somePlan(r, g)
			if rank >= 0 && !some(play(t, g, plan, other, from, rank), in(goal)) {
				t.Fatalf("%v, goal %v: %v from %d against %v", g, goal, plan, from, other)
			}
			if rank < 0 && some(play(t, g, other, flee, from, 100), in(goal)) {
				t.Fatalf("%v, goal %v: %v from %d against %v", g, goal, flee, from, other)
			}
		}
	}
	smallGames(look)
	someGames(1000, 16, look)
}

func TestPlay(t *testing.T) {
	none := []int{-1, -1, -1, -1}
	for _, c := range []struct {
		g           api.Game
		man, ducks  []int
		from, moves int
		want        []int
	}{
		{first(), []int{2, -1, -1, -1}, []int{0, 0, 0, 0}, 1, 3, []int{1, 0, 2, 3}},
		{first(), []int{2, -1, -1, -1}, []int{0, 3, 0, 0}, 1, 2, []int{1, 3, 3}},
		{second(), none, []int{-1, 0, -1, -1}, 0, 4, []int{0, 1, 0, 1, 0}},
		// The first of the moves, where the plan has none of them.
		{first(), none, none, 0, 3, []int{0, 1, 0, 1}},
		{first(), []int{3, 3, 3, 3}, []int{1, 1, 1, 1}, 0, 3, []int{0, 1, 0, 1}},
		// Each one moves by their own plan only.
		{first(), []int{2, 3, 9, 9}, []int{1, 9, 9, 9}, 1, 3, []int{1, 0, 2, 3}},
		{first(), none, none, 2, 0, []int{2}},
		{line(1, 1), []int{5}, []int{math.MinInt}, 0, 100, make([]int, 101)},
	} {
		if l, e := lure.Play(c.g, c.man, c.ducks, c.from, c.moves); !slices.Equal(l, c.want) || e != api.OK {
			t.Errorf("Play(%v, %v, %v, %d, %d): %v, %d, want %v", c.g, c.man, c.ducks, c.from, c.moves, l, e, c.want)
		}
	}
	r := rand.New(rand.NewPCG(4, 3))
	someGames(1000, 16, func(g api.Game, _ []int) {
		play(t, g, somePlan(r, g), somePlan(r, g), r.IntN(len(g.Owner)), r.IntN(101))
	})
}

func TestErrorsOfPlay(t *testing.T) {
	good, short, long := []int{0, 0, 0, 0}, []int{0, 0, 0}, []int{0, 0, 0, 0, 0}
	type bad struct {
		man, ducks  []int
		from, moves int
	}
	l := []bad{
		{nil, good, 0, 1}, {good, nil, 0, 1}, {short, good, 0, 1}, {good, short, 0, 1},
		{long, good, 0, 1}, {good, long, 0, 1}, {good, good, 4, 1}, {good, good, 4, 0},
	}
	for _, n := range notPlaces {
		l = append(l, bad{good, good, n, 1})
	}
	for _, n := range []int{-1, 101, 102, 1000, math.MaxInt, math.MinInt} {
		l = append(l, bad{good, good, 0, n})
	}
	for _, c := range l {
		if way, e := lure.Play(first(), c.man, c.ducks, c.from, c.moves); len(way) != 0 || e != api.ErrArg {
			t.Errorf("Play(%v, %v, %d, %d): %v, %d", c.man, c.ducks, c.from, c.moves, way, e)
		}
	}
}
