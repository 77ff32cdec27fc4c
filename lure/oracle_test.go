package lure_test

import (
	"math"
	"math/rand/v2"
	"slices"
	"testing"

	"wigeon/api"
	"wigeon/lure"
)

// The functions of this file find what the chapter's words ask for in the
// plainest way, to compare the package with it.

// notPlaces are numbers that are places of no game.
var notPlaces = []int{-1, -2, 16, 17, 32, 63, 64, 65, 1 << 32, math.MaxInt, math.MinInt, math.MinInt + 1}

// first is the game of the chapter's first example; its goal is the place 3.
func first() api.Game {
	return api.Game{Owner: []int{0, 1, 1, 0}, Moves: [][]int{{1, 2}, {0, 3}, {3}, {3}}}
}

// second is the game of the second example.
func second() api.Game {
	return api.Game{Owner: []int{0, 1, 1, 0}, Moves: [][]int{{1}, {0, 3}, {3}, {3}}}
}

// line is a game of an owner in which each place leads to the one before it,
// and the place 0 to itself.
func line(count, owner int) api.Game {
	var g api.Game
	for p := range count {
		g.Owner = append(g.Owner, owner)
		g.Moves = append(g.Moves, []int{max(p-1, 0)})
	}
	return g
}

// wrongGames returns games with the first error of each.
func wrongGames() map[string]struct {
	g api.Game
	e api.Errno
} {
	type wrong = struct {
		g api.Game
		e api.Errno
	}
	l := map[string]wrong{
		"nothing":                   {api.Game{}, api.ErrLarge},
		"empty lists":               {api.Game{Owner: []int{}, Moves: [][]int{}}, api.ErrLarge},
		"moves only":                {api.Game{Moves: [][]int{{0}}}, api.ErrLarge},
		"17 places":                 {line(17, 0), api.ErrLarge},
		"17 owners, no moves":       {api.Game{Owner: make([]int, 17)}, api.ErrLarge},
		"17 places, wrong ones":     {api.Game{Owner: slices.Repeat([]int{7}, 17), Moves: make([][]int, 17)}, api.ErrLarge},
		"owners only":               {api.Game{Owner: []int{0}}, api.ErrArg},
		"a list of moves too few":   {api.Game{Owner: []int{0, 1}, Moves: [][]int{{0}}}, api.ErrArg},
		"a list of moves too many":  {api.Game{Owner: []int{0}, Moves: [][]int{{0}, {0}}}, api.ErrArg},
		"many lists of moves":       {api.Game{Owner: []int{0}, Moves: make([][]int, 17)}, api.ErrArg},
		"no move from the first":    {api.Game{Owner: []int{0, 1}, Moves: [][]int{nil, {0}}}, api.ErrArg},
		"no move from the last":     {api.Game{Owner: []int{0, 1}, Moves: [][]int{{0}, {}}}, api.ErrArg},
		"a move to the end":         {api.Game{Owner: []int{0, 1}, Moves: [][]int{{0}, {2}}}, api.ErrArg},
		"a move beyond, after one":  {api.Game{Owner: []int{0, 1}, Moves: [][]int{{0}, {0, 1, 2}}}, api.ErrArg},
		"moves in descending order": {api.Game{Owner: []int{0, 1}, Moves: [][]int{{1, 0}, {0}}}, api.ErrArg},
		"a move twice":              {api.Game{Owner: []int{0, 1}, Moves: [][]int{{0, 0}, {0}}}, api.ErrArg},
		"a move twice, at the end":  {api.Game{Owner: []int{0, 1}, Moves: [][]int{{0}, {0, 1, 1}}}, api.ErrArg},
	}
	for _, n := range append([]int{2, 3}, notPlaces...) {
		name := " " + string(rune('A'+len(l)))
		l["an owner"+name] = wrong{api.Game{Owner: []int{0, n}, Moves: [][]int{{0}, {0}}}, api.ErrArg}
		l["a move"+name] = wrong{api.Game{Owner: []int{0, 1}, Moves: [][]int{{0}, {n}}}, api.ErrArg}
		l["a move before"+name] = wrong{api.Game{Owner: []int{0, 1}, Moves: [][]int{{n, 0}, {0}}}, api.ErrArg}
	}
	return l
}

// wrongSets returns lists that are no sets of places of a game with count
// places.
func wrongSets(count int) [][]int {
	l := [][]int{{0, 0}, {count}, {0, count}, {count - 1, count}, {0, -1}, {count - 1, count - 1}, make([]int, 100)}
	if count > 1 {
		l = append(l, []int{1, 0}, []int{count - 1, 0}, []int{0, 1, 1}, []int{0, 1, 0})
	}
	for _, n := range notPlaces {
		l = append(l, []int{n}, []int{0, n}, []int{n, 0})
	}
	return l
}

// subset returns the set of the places whose bits a number has.
func subset(count, bits int) []int {
	var l []int
	for p := range count {
		if bits>>p%2 == 1 {
			l = append(l, p)
		}
	}
	return l
}

// without returns the places of a game that are not in a set.
func without(g api.Game, set []int) []int {
	var l []int
	for p := range g.Owner {
		if !slices.Contains(set, p) {
			l = append(l, p)
		}
	}
	return l
}

// smallGames calls a function with all games of at most three places, and each
// of their sets of places.
func smallGames(each func(g api.Game, set []int)) {
	for count := 1; count <= 3; count++ {
		choices := 1<<count - 1
		lists := int(math.Pow(float64(choices), float64(count)))
		for n := range lists << count {
			g := api.Game{}
			for p, moves := 0, n>>count; p < count; p, moves = p+1, moves/choices {
				g.Owner = append(g.Owner, n>>p%2)
				g.Moves = append(g.Moves, subset(count, 1+moves%choices))
			}
			for bits := range 1 << count {
				each(g, subset(count, bits))
			}
		}
	}
}

// someGames calls a function with games of at most so many places, with few
// moves and with many, and sets of places of them.
func someGames(count, places int, each func(g api.Game, set []int)) {
	r := rand.New(rand.NewPCG(4, uint64(places)))
	for i := range count {
		n := 1 + r.IntN(places)
		if i%10 == 0 {
			n = places
		}
		g := api.Game{}
		many := 1 + r.IntN(3)
		for range n {
			moves := []int{r.IntN(n)}
			for range r.IntN(many * 2) {
				moves = append(moves, r.IntN(n))
			}
			slices.Sort(moves)
			g.Owner = append(g.Owner, r.IntN(2))
			g.Moves = append(g.Moves, slices.Compact(moves))
		}
		bits := r.IntN(1 << n)
		if i%2 == 0 {
			bits &= r.IntN(1 << n)
		}
		each(g, subset(n, bits))
	}
}

func some(l []int, is func(int) bool) bool {
	return slices.ContainsFunc(l, is)
}

func all(l []int, is func(int) bool) bool {
	return !some(l, func(p int) bool { return !is(p) })
}

func in(set []int) func(int) bool {
	return func(p int) bool { return slices.Contains(set, p) }
}

// wantRanks finds in how many moves the man can force the goal at the latest.
func wantRanks(g api.Game, goal []int) []int {
	ranks := slices.Repeat([]int{-1}, len(g.Owner))
	reached := slices.Repeat([]bool{false}, len(g.Owner))
	for moves := range 2 + len(g.Owner) {
		before := slices.Clone(reached)
		is := func(p int) bool { return before[p] }
		for p, owner := range g.Owner {
			switch {
			case slices.Contains(goal, p):
				reached[p] = true
			case owner == 0:
				reached[p] = some(g.Moves[p], is)
			default:
				reached[p] = all(g.Moves[p], is)
			}
			if reached[p] && ranks[p] < 0 {
				ranks[p] = moves
			}
		}
	}
	return ranks
}

// atMost returns the places with a rank from 0 to most.
func atMost(ranks []int, most int) []int {
	var l []int
	for p, r := range ranks {
		if r >= 0 && r <= most {
			l = append(l, p)
		}
	}
	return l
}

func wantProvesWins(g api.Game, goal, ranks []int) bool {
	for p, r := range ranks {
		if r == 0 && !slices.Contains(goal, p) {
			return false
		}
		lower := func(to int) bool { return ranks[to] >= 0 && ranks[to] < r }
		if r > 0 && g.Owner[p] == 0 && !some(g.Moves[p], lower) {
			return false
		}
		if r > 0 && g.Owner[p] == 1 && !all(g.Moves[p], lower) {
			return false
		}
	}
	return true
}

func wantIsTrap(g api.Game, goal, trap []int) bool {
	return all(trap, func(p int) bool {
		if slices.Contains(goal, p) {
			return false
		}
		if g.Owner[p] == 0 {
			return all(g.Moves[p], in(trap))
		}
		return some(g.Moves[p], in(trap))
	})
}

func wantIsKept(g api.Game, set []int) bool {
	return all(set, func(p int) bool {
		if g.Owner[p] == 0 {
			return some(g.Moves[p], in(set))
		}
		return all(g.Moves[p], in(set))
	})
}

// wantUnion returns the places that are in some set for which a question is
// answered with yes.
func wantUnion(count int, is func(set []int) bool) []int {
	found := 0
	for bits := range 1 << count {
		if is(subset(count, bits)) {
			found |= bits
		}
	}
	return subset(count, found)
}

// wantAgain tries all ways in which the man can always make the same move at
// the same place (he needs no others to visit the goal infinitely often), and
// finds the places from which the ducks can't come to a ring without the goal.
func wantAgain(g api.Game, goal []int) []int {
	found := map[int]bool{}
	var try func(p int, chosen [][]int)
	try = func(p int, chosen [][]int) {
		if p == len(g.Owner) {
			for from := range g.Owner {
				if !escapes(chosen, goal, from) {
					found[from] = true
				}
			}
			return
		}
		if g.Owner[p] == 1 {
			try(p+1, append(slices.Clone(chosen), g.Moves[p]))
			return
		}
		for _, to := range g.Moves[p] {
			try(p+1, append(slices.Clone(chosen), []int{to}))
		}
	}
	try(0, nil)
	var l []int
	for p := range g.Owner {
		if found[p] {
			l = append(l, p)
		}
	}
	return l
}

// escapes reports whether moves lead from a place to a ring without the goal.
func escapes(moves [][]int, goal []int, from int) bool {
	left := reachable(moves, from)
	left = slices.DeleteFunc(left, in(goal))
	// What leads nowhere any more is on no ring.
	for count := -1; count != len(left); {
		count = len(left)
		kept := slices.Clone(left)
		left = slices.DeleteFunc(left, func(p int) bool { return !some(moves[p], in(kept)) })
	}
	return len(left) > 0
}

func reachable(moves [][]int, from int) []int {
	l := []int{from}
	for i := 0; i < len(l); i++ {
		for _, to := range moves[l[i]] {
			if !slices.Contains(l, to) {
				l = append(l, to)
			}
		}
	}
	return l
}

// wantPlay goes the moves one after another.
func wantPlay(g api.Game, man, ducks []int, from, moves int) []int {
	way := []int{from}
	for len(way) <= moves {
		at := way[len(way)-1]
		plan := man
		if g.Owner[at] == 1 {
			plan = ducks
		}
		to := g.Moves[at][0]
		for _, next := range g.Moves[at] {
			if next == plan[at] {
				to = next
			}
		}
		way = append(way, to)
	}
	return way
}

func cloneGame(g api.Game) api.Game {
	c := api.Game{Owner: slices.Clone(g.Owner)}
	for _, l := range g.Moves {
		c.Moves = append(c.Moves, slices.Clone(l))
	}
	return c
}

func sameGame(a, b api.Game) bool {
	return slices.Equal(a.Owner, b.Owner) && slices.EqualFunc(a.Moves, b.Moves, slices.Equal[[]int])
}

func isNoGame(g api.Game) bool {
	return len(g.Owner) == 0 && len(g.Moves) == 0
}

// ofSets are the functions of a game and a set alone, by their names.
func ofSets() map[string]func(api.Game, []int) ([]int, api.Errno) {
	return map[string]func(api.Game, []int) ([]int, api.Errno){
		"Before": lure.Before, "Ranks": lure.Ranks, "Wins": lure.Wins, "Free": lure.Free,
		"Plan": lure.Plan, "Flee": lure.Flee, "Again": lure.Again, "Keeps": lure.Keeps,
	}
}

// call calls a function that must not fail, twice, and spoils its first result,
// which must not be felt by anything else.
func call(t *testing.T, name string, g api.Game, set []int) []int {
	t.Helper()
	f := ofSets()[name]
	game, list := cloneGame(g), slices.Clone(set)
	l, e := f(g, set)
	want := slices.Clone(l)
	for i := range l {
		l[i] = -7
	}
	again, later := f(g, set)
	if e != api.OK || later != api.OK || !slices.Equal(again, want) {
		t.Fatalf("%s(%v, %v): %v, %d, and then %v, %d", name, game, list, want, e, again, later)
	}
	if !sameGame(g, game) || !slices.Equal(set, list) {
		t.Fatalf("%s(%v, %v) changed an argument: %v, %v", name, game, list, g, set)
	}
	return want
}
