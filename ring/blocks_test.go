package ring_test

import (
	"math"
	"slices"
	"testing"

	"wigeon/api"
	"wigeon/ring"
)

// someBlocks returns eight blocks, the most there may be.
func someBlocks() []api.Block {
	return []api.Block{
		{Series: "B", From: 10, To: 19},
		{Series: "AB", From: 0, To: 99999},
		{Series: "B", From: 30, To: 30},
		{Series: "A", From: 5, To: 5},
		{Series: "B", From: 20, To: 29},
		{Series: "B", From: 32, To: 40},
		{Series: "A", From: 99999, To: 99999},
		{Series: "AC", From: 0, To: 0},
	}
}

// blockErrors are lists that are not valid, and their errors.
var blockErrors = []struct {
	l    []api.Block
	want api.Errno
}{
	{slices.Repeat([]api.Block{{Series: "?", From: 2, To: 1}}, 9), api.ErrLarge},
	{append(someBlocks(), api.Block{Series: "C"}), api.ErrLarge},
	{[]api.Block{{}}, api.ErrSyntax},
	{[]api.Block{{Series: "a"}}, api.ErrSyntax},
	{[]api.Block{{Series: "ABC"}}, api.ErrSyntax},
	{[]api.Block{{Series: "A?"}}, api.ErrSyntax},
	{[]api.Block{{Series: "Ä"}}, api.ErrSyntax},
	{[]api.Block{{Series: "A0"}}, api.ErrSyntax},
	{[]api.Block{{Series: "A", From: 2, To: 1}}, api.ErrArg},
	{[]api.Block{{Series: "A", From: -1, To: 1}}, api.ErrArg},
	{[]api.Block{{Series: "A", From: -2, To: -1}}, api.ErrArg},
	{[]api.Block{{Series: "A", From: 0, To: 100000}}, api.ErrArg},
	{[]api.Block{{Series: "A", From: 100000, To: 100000}}, api.ErrArg},
	{[]api.Block{{Series: "A", From: math.MinInt, To: math.MaxInt}}, api.ErrArg},
	{[]api.Block{{Series: "A", From: math.MaxInt, To: math.MinInt}}, api.ErrArg},
	// One block: the series comes first.
	{[]api.Block{{Series: "a", From: 2, To: 1}}, api.ErrSyntax},
	// One by one: the first wrong block decides.
	{[]api.Block{{Series: "A", From: 2, To: 1}, {Series: "a"}}, api.ErrArg},
	{[]api.Block{{Series: "a"}, {Series: "A", From: 2, To: 1}}, api.ErrSyntax},
	// Common rings come after all else.
	{[]api.Block{{Series: "A"}, {Series: "A"}, {Series: "a"}}, api.ErrSyntax},
	{[]api.Block{{Series: "A"}, {Series: "A"}, {Series: "A", From: 2, To: 1}}, api.ErrArg},
	{[]api.Block{{Series: "A"}, {Series: "A"}}, api.ErrTwice},
	{[]api.Block{{Series: "A", From: 1, To: 5}, {Series: "A", From: 5, To: 9}}, api.ErrTwice},
	{[]api.Block{{Series: "A", From: 5, To: 9}, {Series: "A", From: 1, To: 5}}, api.ErrTwice},
	{[]api.Block{{Series: "A", From: 0, To: 99999}, {Series: "A", From: 7, To: 8}}, api.ErrTwice},
	{[]api.Block{{Series: "AB", From: 7, To: 8}, {Series: "C"}, {Series: "AB", From: 0, To: 99999}}, api.ErrTwice},
}

func TestValidateBlocks(t *testing.T) {
	for _, l := range [][]api.Block{
		nil,
		{},
		someBlocks(),
		{{Series: "A"}},
		{{Series: "Z", From: 99999, To: 99999}},
		{{Series: "A", From: 1, To: 5}, {Series: "A", From: 6, To: 9}},
		{{Series: "A", From: 1, To: 5}, {Series: "AA", From: 1, To: 5}, {Series: "B", From: 1, To: 5}},
	} {
		if e := ring.ValidateBlocks(l); e != api.OK {
			t.Errorf("%v: %d", l, e)
		}
	}
	for _, c := range blockErrors {
		if e := ring.ValidateBlocks(c.l); e != c.want {
			t.Errorf("%v: %d, want %d", c.l, e, c.want)
		}
	}
}

func TestErrorsOfBlocks(t *testing.T) {
	for _, c := range blockErrors {
		if n, e := ring.Total(c.l); n != 0 || e != c.want {
			t.Errorf("Total(%v): %d, %d, want %d", c.l, n, e, c.want)
		}
		if l, e := ring.Join(c.l); len(l) != 0 || e != c.want {
			t.Errorf("Join(%v): %v, %d, want %d", c.l, l, e, c.want)
		}
		// The errors of the blocks come before those of the ring.
		for _, r := range []string{"AB002367", "AB002364", "AB"} {
			if i, ok, e := ring.Owner(c.l, r); i != 0 || ok || e != c.want {
				t.Errorf("Owner(%v, %q): %d, %t, %d, want %d", c.l, r, i, ok, e, c.want)
			}
		}
	}
}

func TestTotal(t *testing.T) {
	for _, c := range []struct {
		l    []api.Block
		want int
	}{
		{nil, 0},
		{[]api.Block{{Series: "A", From: 7, To: 7}}, 1},
		{[]api.Block{{Series: "A", From: 0, To: 99999}}, 100000},
		{someBlocks(), 10 + 100000 + 1 + 1 + 10 + 9 + 1 + 1},
	} {
		if n, e := ring.Total(c.l); n != c.want || e != api.OK {
			t.Errorf("Total(%v): %d, %d, want %d", c.l, n, e, c.want)
		}
	}
}

func TestOwner(t *testing.T) {
	for _, c := range []struct {
		series string
		number int
		want   int
		found  bool
	}{
		{"B", 9, 0, false}, {"B", 10, 0, true}, {"B", 15, 0, true}, {"B", 19, 0, true},
		{"B", 20, 4, true}, {"B", 29, 4, true}, {"B", 30, 2, true}, {"B", 31, 0, false},
		{"B", 32, 5, true}, {"B", 40, 5, true}, {"B", 41, 0, false}, {"B", 0, 0, false},
		{"AB", 0, 1, true}, {"AB", 99999, 1, true}, {"AB", 15, 1, true},
		{"A", 4, 0, false}, {"A", 5, 3, true}, {"A", 6, 0, false}, {"A", 99999, 6, true},
		{"AC", 0, 7, true}, {"AC", 1, 0, false}, {"BA", 15, 0, false}, {"C", 15, 0, false},
	} {
		r := make1(t, c.series, c.number)
		if i, ok, e := ring.Owner(someBlocks(), r); i != c.want || ok != c.found || e != api.OK {
			t.Errorf("Owner(%q): %d, %t, %d, want %d, %t", r, i, ok, e, c.want, c.found)
		}
	}
	if i, ok, e := ring.Owner(nil, "AB002367"); i != 0 || ok || e != api.OK {
		t.Errorf("Owner of no blocks: %d, %t, %d", i, ok, e)
	}
	if i, ok, e := ring.Owner(someBlocks(), "AB002364"); i != 0 || ok || e != api.ErrCheck {
		t.Errorf("Owner of a wrong ring: %d, %t, %d", i, ok, e)
	}
	for _, text := range append([]string{"AB00236?"}, malformed...) {
		if i, ok, e := ring.Owner(someBlocks(), text); i != 0 || ok || e != api.ErrSyntax {
			t.Errorf("Owner(%q): %d, %t, %d", text, i, ok, e)
		}
	}
}

func TestJoin(t *testing.T) {
	for _, c := range []struct{ l, want []api.Block }{
		{nil, nil},
		{[]api.Block{{Series: "A", From: 3, To: 4}}, []api.Block{{Series: "A", From: 3, To: 4}}},
		{someBlocks(), []api.Block{
			{Series: "A", From: 5, To: 5},
			{Series: "A", From: 99999, To: 99999},
			{Series: "AB", From: 0, To: 99999},
			{Series: "AC", From: 0, To: 0},
			{Series: "B", From: 10, To: 30},
			{Series: "B", From: 32, To: 40},
		}},
		// Numbers that follow each other in other series are no gap to close.
		{[]api.Block{{Series: "B", From: 5, To: 6}, {Series: "A", From: 0, To: 4}},
			[]api.Block{{Series: "A", From: 0, To: 4}, {Series: "B", From: 5, To: 6}}},
		{[]api.Block{{Series: "A", From: 50000, To: 99999}, {Series: "A", From: 0, To: 49999}},
			[]api.Block{{Series: "A", From: 0, To: 99999}}},
		{[]api.Block{{Series: "Z"}, {Series: "AA"}, {Series: "ZA"}, {Series: "A"}},
			[]api.Block{{Series: "A"}, {Series: "AA"}, {Series: "Z"}, {Series: "ZA"}}},
	} {
		if l, e := ring.Join(c.l); !slices.Equal(l, c.want) || e != api.OK {
			t.Errorf("Join(%v): %v, %d, want %v", c.l, l, e, c.want)
		}
	}
}

func TestJoinIsNewMemory(t *testing.T) {
	l := someBlocks()
	joined, _ := ring.Join(l)
	if !slices.Equal(l, someBlocks()) {
		t.Errorf("Join changed its argument: %v", l)
	}
	for i := range joined {
		joined[i] = api.Block{}
	}
	if !slices.Equal(l, someBlocks()) {
		t.Errorf("a result of Join shares memory with its argument: %v", l)
	}
}
