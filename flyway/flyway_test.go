package flyway_test

import (
	"math"
	"math/big"
	"slices"
	"testing"

	"wigeon/api"
	"wigeon/flyway"
)

type wrongChain struct {
	c [][]int
	e api.Errno
}

// wrongChains returns tables that are no chains, and their errors.
func wrongChains() []wrongChain {
	row := []int{1, 1, 1, 1, 1, 1}
	l := []wrongChain{
		{nil, api.ErrLarge},
		{[][]int{}, api.ErrLarge},
		{[][]int{row, row, row, row, row, row}, api.ErrLarge},
		{make([][]int, 6), api.ErrLarge},
		{[][]int{{-1}, {-1}, {0}, {0}, {0}, {0}}, api.ErrLarge},
		{make([][]int, 100000), api.ErrLarge},
		{[][]int{nil}, api.ErrArg},
		{[][]int{{}}, api.ErrArg},
		{make([][]int, 5), api.ErrArg},
		{[][]int{{0}}, api.ErrArg},
		{[][]int{{1, 1}}, api.ErrArg},
		{[][]int{{1, 0}}, api.ErrArg},
		{[][]int{{1}, {1}}, api.ErrArg},
		{[][]int{{1, 1}, {1}}, api.ErrArg},
		{[][]int{{1, 1}, {1, 1, 1}}, api.ErrArg},
		{[][]int{{1, 1}, nil}, api.ErrArg},
		{[][]int{{1, 1}, {0, 0}}, api.ErrArg},
		{[][]int{{0, 0}, {1, 1}}, api.ErrArg},
		{[][]int{row[:5], row[:5], row[:5], row[:5], {0, 0, 0, 0, 0}}, api.ErrArg},
		{[][]int{row[:5], row[:5], row[:5], row[:5], row}, api.ErrArg},
		{[][]int{row[:5], row[:5], row[:5], row[:5], row[:4]}, api.ErrArg},
		{[][]int{{1, -1}, {1, 1}}, api.ErrArg},
		{[][]int{{2, -1}, {1, 1}}, api.ErrArg},
	}
	for _, n := range []int{-1, -2, 4, 5, 1 << 32, -1 << 32, math.MaxInt, math.MinInt} {
		l = append(l,
			wrongChain{[][]int{{n}}, api.ErrArg},
			wrongChain{[][]int{{n, 1}, {1, 1}}, api.ErrArg},
			wrongChain{[][]int{{1, 1}, {1, n}}, api.ErrArg},
			wrongChain{[][]int{{1, 1, 1}, {1, 1, 1}, {3, 3, n}}, api.ErrArg},
			wrongChain{[][]int{{1, 1}, {-n, n}}, api.ErrArg},
		)
	}
	return l
}

func TestValidate(t *testing.T) {
	for _, c := range [][][]int{{{1}}, {{3}}, ring(), line(), fork(), walk(), trap(), slices.Repeat([][]int{{3, 3, 3, 3, 3}}, 5), slices.Repeat([][]int{{0, 0, 0, 0, 1}}, 5)} {
		if e := flyway.Validate(c); e != api.OK {
			t.Errorf("Validate(%v): %d", c, e)
		}
	}
	for _, x := range wrongChains() {
		if e := flyway.Validate(x.c); e != x.e {
			t.Errorf("Validate of %d rows, %v: %d, want %d", len(x.c), x.c[:min(len(x.c), 7)], e, x.e)
		}
		// The errors of the chain come before those of all else.
		wantErrors(t, x.c, 0, 0, 0, x.e)
		wantErrors(t, x.c, -1, 7, 0, x.e)
	}
}

func TestNoPlaces(t *testing.T) {
	for _, c := range [][][]int{{{1}}, ring(), line(), trap(), slices.Repeat([][]int{{1, 1, 1, 1, 1}}, 5)} {
		for _, n := range append(notPlaces, len(c)) {
			wantErrors(t, c, n, 0, 1, api.ErrNone)
			wantErrors(t, c, 0, n, 2, api.ErrNone)
			wantErrors(t, c, n, n, 1, api.ErrNone)
		}
	}
	// The place 2 is not sure: still, there is no place 5.
	wantErrors(t, trap(), 2, 5, 2, api.ErrNone)
}

func TestPassage(t *testing.T) {
	for _, x := range []struct {
		c    [][]int
		i, j int
		want api.Rat
	}{
		{line(), 0, 1, api.Rat{Num: 1, Den: 2}}, {line(), 0, 2, api.Rat{Num: 0, Den: 1}}, {line(), 2, 2, api.Rat{Num: 1, Den: 1}},
		{walk(), 1, 2, api.Rat{Num: 2, Den: 3}}, {walk(), 2, 1, api.Rat{Num: 1, Den: 3}}, {walk(), 3, 3, api.Rat{Num: 1, Den: 1}},
		{[][]int{{2, 2}, {1, 3}}, 0, 1, api.Rat{Num: 1, Den: 2}},
	} {
		if r, e := flyway.Passage(x.c, x.i, x.j); r != x.want || e != api.OK {
			t.Errorf("Passage(%v, %d, %d): %v, %d, want %v", x.c, x.i, x.j, r, e, x.want)
		}
	}
	chains(func(c [][]int) {
		for i := range c {
			for j := range c {
				want := ratOf(c[i][j], sumOf(c[i]))
				if r, e := flyway.Passage(c, i, j); !isRat(r, want) || e != api.OK {
					t.Fatalf("Passage(%v, %d, %d): %v, %d, want %v", c, i, j, r, e, want)
				}
			}
		}
	})
}

func TestChance(t *testing.T) {
	for steps, want := range []api.Rat{{Num: 0, Den: 1}, {Num: 0, Den: 1}, {Num: 1, Den: 4}, {Num: 1, Den: 2}} {
		if r, e := flyway.Chance(line(), 0, 2, steps); r != want || e != api.OK {
			t.Errorf("Chance(%v, 0, 2, %d): %v, %d, want %v", line(), steps, r, e, want)
		}
	}
	if r, e := flyway.Chance(ring(), 1, 1, 0); r != (api.Rat{Num: 1, Den: 1}) || e != api.OK {
		t.Errorf("Chance(%v, 1, 1, 0): %v, %d", ring(), r, e)
	}
	for _, steps := range []int{-1, 4, 5, 1 << 32, math.MaxInt, math.MinInt} {
		if r, e := flyway.Chance(line(), 0, 2, steps); r != (api.Rat{}) || e != api.ErrArg {
			t.Errorf("Chance(%v, 0, 2, %d): %v, %d", line(), steps, r, e)
		}
	}
}

func TestChanceOfWays(t *testing.T) {
	one := big.NewRat(1, 1)
	look := func(c [][]int, i, steps int) {
		all := new(big.Rat)
		for j := range c {
			want := wantChance(c, i, j, steps)
			r, e := flyway.Chance(c, i, j, steps)
			if !isRat(r, want) || e != api.OK {
				t.Fatalf("Chance(%v, %d, %d, %d): %v, %d, want %v", c, i, j, steps, r, e, want)
			}
			all.Add(all, ratOf(r.Num, r.Den))
		}
		if all.Cmp(one) != 0 {
			t.Fatalf("the chances of %v from %d, %d steps: %v", c, i, steps, all)
		}
	}
	each := func(c [][]int) {
		for i := range c {
			for steps := range 4 {
				look(c, i, steps)
			}
		}
	}
	smallChains(each)
	someChains(150, each)
	greatChains(func(c [][]int) {
		look(c, 0, 2)
		look(c, 0, 3)
	})
}

// TestMemory tests that no chain is changed, that results share no memory with
// it, and that the next call returns the same.
func TestMemory(t *testing.T) {
	spoil := func(rows ...[]int) {
		for _, row := range rows {
			for i := range row {
				row[i] = 7
			}
		}
	}
	chains(func(c [][]int) {
		given := copyOf(c)
		for i := range c {
			l := answers(c, i, len(c)-1)
			ends, _ := flyway.Ends(c)
			leads, _ := flyway.Leads(c, i)
			classes, _ := flyway.Classes(c)
			rest, _ := flyway.Without(c, i)
			table, _ := flyway.EndTable(c)
			if e := flyway.CheckEnds(c, table); len(table.Num) > 0 && e != api.OK {
				t.Fatalf("CheckEnds(%v, %v): %d", c, table, e)
			}
			still, _ := flyway.Still(c)
			had := [][][]int{{ends}, {leads}, copyOf(classes), copyOf(rest), copyOf(table.Num)}
			hadStill := slices.Clone(still)
			had[0][0], had[1][0] = slices.Clone(ends), slices.Clone(leads)
			spoil(ends, leads)
			spoil(classes...)
			spoil(rest...)
			spoil(table.Num...)
			clear(still)
			if !areEqual(c, given) {
				t.Fatalf("%v has become %v", given, c)
			}
			ends, _ = flyway.Ends(c)
			leads, _ = flyway.Leads(c, i)
			classes, _ = flyway.Classes(c)
			rest, _ = flyway.Without(c, i)
			table, _ = flyway.EndTable(c)
			still, _ = flyway.Still(c)
			for n, again := range [][][]int{{ends}, {leads}, classes, rest, table.Num} {
				if !areEqual(again, had[n]) {
					t.Fatalf("%v: at first %v, then %v", c, had[n], again)
				}
			}
			if !slices.Equal(still, hadStill) || !slices.Equal(answers(c, i, len(c)-1), l) {
				t.Fatalf("%v does not return the same again", c)
			}
		}
	})
}

// TestRowsThatAreShared tests chains whose rows lie in the same memory.
func TestRowsThatAreShared(t *testing.T) {
	row := []int{1, 2, 3}
	shared := [][]int{row, row, row}
	apart := copyOf(shared)
	for i := range shared {
		a, e := flyway.Without(shared, i)
		b, f := flyway.Without(apart, i)
		if !areEqual(a, b) || e != f {
			t.Errorf("Without(%v, %d): %v, %d, and %v, %d", shared, i, a, e, b, f)
		}
	}
	a, e := flyway.Still(shared)
	b, f := flyway.Still(apart)
	if !slices.Equal(a, b) || e != f || !areEqual(shared, apart) {
		t.Errorf("Still(%v): %v, %d, and %v, %d", shared, a, e, b, f)
	}
}
