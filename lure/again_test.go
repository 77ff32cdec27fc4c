package lure_test

import (
	"slices"
	"testing"

	"wigeon/api"
	"wigeon/lure"
)

func TestKeeps(t *testing.T) {
	for _, c := range []struct{ set, want []int }{
		{nil, nil}, {count(4), count(4)}, {[]int{0, 1, 3}, []int{0, 1, 3}}, {[]int{0, 1}, nil},
		{[]int{3}, []int{3}}, {[]int{0, 1, 2}, nil}, {[]int{1, 2, 3}, []int{2, 3}},
	} {
		if l, e := lure.Keeps(first(), c.set); !slices.Equal(l, c.want) || e != api.OK {
			t.Errorf("Keeps(%v): %v, %d, want %v", c.set, l, e, c.want)
		}
	}
	// One place after another falls away.
	if l, e := lure.Keeps(line(16, 0), count(16)[1:]); len(l) != 0 || e != api.OK {
		t.Errorf("Keeps of a line: %v, %d", l, e)
	}
}

func TestKeepsOfGames(t *testing.T) {
	look := func(g api.Game, set []int) {
		want := wantUnion(len(g.Owner), func(some []int) bool {
			return all(some, in(set)) && wantIsKept(g, some)
		})
		if l := call(t, "Keeps", g, set); !slices.Equal(l, want) || !wantIsKept(g, l) {
			t.Fatalf("Keeps(%v, %v): %v, want %v", g, set, l, want)
		}
	}
	smallGames(look)
	someGames(400, 7, look)
}

// TestKeepsIsFree tests that the ducks keep free where a man in their place
// could keep to what is not the goal.
func TestKeepsIsFree(t *testing.T) {
	look := func(g api.Game, goal []int) {
		other, e := lure.Exchange(g)
		if e != api.OK {
			t.Fatalf("Exchange(%v): %d", g, e)
		}
		free := call(t, "Free", g, goal)
		if l := call(t, "Keeps", other, without(g, goal)); !slices.Equal(l, free) {
			t.Fatalf("Keeps after Exchange of %v, goal %v: %v, free are %v", g, goal, l, free)
		}
	}
	smallGames(look)
	someGames(1000, 16, look)
}

func TestAgain(t *testing.T) {
	once := api.Game{Owner: []int{0, 0, 0, 0}, Moves: [][]int{{2}, {1}, {2}, {0, 1}}}
	choice := api.Game{Owner: []int{0, 1, 0, 0}, Moves: [][]int{{1}, {0, 2}, {0, 3}, {3}}}
	for _, c := range []struct {
		g          api.Game
		goal, want []int
	}{
		{first(), []int{3}, count(4)},
		{first(), []int{0}, nil},
		{first(), nil, nil},
		{first(), count(4), count(4)},
		// From 0 the goal is visited once, at the start.
		{once, []int{0, 1}, []int{1, 3}},
		{once, []int{0}, nil},
		{once, []int{2}, []int{0, 2, 3}},
		// The ducks can go around 2, and the man can go back from there.
		{choice, []int{0}, []int{0, 1, 2}},
		{choice, []int{2}, nil},
		{choice, []int{2, 3}, []int{2, 3}},
		{line(16, 1), []int{0}, count(16)},
		{line(16, 0), []int{15}, nil},
	} {
		if l, e := lure.Again(c.g, c.goal); !slices.Equal(l, c.want) || e != api.OK {
			t.Errorf("Again(%v, %v): %v, %d, want %v", c.g, c.goal, l, e, c.want)
		}
	}
}

func TestAgainOfGames(t *testing.T) {
	none, fewer := 0, 0
	look := func(g api.Game, goal []int) {
		want := wantAgain(g, goal)
		l := call(t, "Again", g, goal)
		if !slices.Equal(l, want) {
			t.Fatalf("Again(%v, %v): %v, want %v", g, goal, l, want)
		}
		wins := call(t, "Wins", g, goal)
		if !all(l, in(wins)) {
			t.Fatalf("Again(%v, %v): %v, the man wins from %v", g, goal, l, wins)
		}
		if len(l) == 0 {
			none++
		} else if len(l) < len(wins) {
			fewer++
		}
	}
	smallGames(look)
	someGames(1500, 7, look)
	if none < 100 || fewer < 100 {
		t.Errorf("%d goals are never visited again, %d from fewer places than once", none, fewer)
	}
}
