package decoy_test

import (
	"slices"
	"strings"
	"testing"

	"wigeon/api"
	"wigeon/decoy"
	"wigeon/ring"
	"wigeon/wind"
)

// twoPipes are a pipe from north to east and one around south-west, which have no
// wind in common.
func twoPipes() []api.Arc {
	return []api.Arc{{From: 30, Width: 11}, {From: 18, Width: 5}}
}

func someBlocks() []api.Block {
	return []api.Block{{Series: "A", From: 0, To: 99}, {Series: "BC", From: 5, To: 6}, {Series: "A", From: 100, To: 101}}
}

// ringOf returns a ring.
func ringOf(t *testing.T, series string, number int) string {
	t.Helper()
	text, e := ring.Make(series, number)
	if e != api.OK {
		t.Fatalf("Make(%q, %d): %d", series, number, e)
	}
	return text
}

// begin returns a decoy that has accepted orders.
func begin(t *testing.T, orders ...string) *decoy.Decoy {
	t.Helper()
	d, e := decoy.New(twoPipes(), someBlocks())
	if e != api.OK || d == nil {
		t.Fatalf("New: %v, %d", d, e)
	}
	do(t, d, api.OK, orders...)
	return d
}

// do executes orders that all have the same result.
func do(t *testing.T, d *decoy.Decoy, want api.Errno, orders ...string) {
	t.Helper()
	for _, order := range orders {
		before := d.Pages()
		if e := d.Do(order); e != want {
			t.Errorf("%q after %q: %d, want %d", order, before, e, want)
		}
		if want == api.OK {
			before = append(before, order)
		}
		if !slices.Equal(d.Pages(), before) {
			t.Errorf("Pages behind %q: %q, want %q", order, d.Pages(), before)
		}
	}
}

// full returns a decoy with as many pages as it may have, on a day with a wind
// and a pipe that is worked, and a bird.
func full(t *testing.T) *decoy.Decoy {
	t.Helper()
	d := begin(t, slices.Repeat([]string{"day"}, 61)...)
	do(t, d, api.OK, "wind N", "work 0", "ring "+ringOf(t, "A", 1))
	return d
}

// noOrders are texts that do not have the form of an order.
var noOrders = []string{
	"", " ", "day ", " day", "day  ", "day 0", "day day", "Day", "DAY", "days", "da", "night", "day\n", "day\r", "\tday", "day\x00", "dey", "däy",
	"shot ", " shot", "shot 1", "Shot", "shots", "shot\n",
	"wind", "wind ", "wind  N", "wind N ", " wind N", "wind N E", "Wind N", "wind\tN", "wind N\n", "wind\nN", "windN", "wind \x7f", "wind ä",
	"work", "work ", "work  1", "work 1 ", "work 1 1", "work 00", "work 01", "work 007", "work -1", "work -0", "work +1", "work 100", "work 1000", "work x", "work 0x1",
	"work 1.", "work 1_0", "work 18446744073709551616", "work " + strings.Repeat("9", 55), "Work 1", "work1", "work ١",
	"ring", "ring ", "ring A 0", "ring  A", "Ring A", "again", "again ", "again A 0", "Again A", "worn", "worn ", "worn ? ?", "Worn ?", "dead", "dead ", "dead A 0", "Dead A",
	"rings A", "agains A", "dea A", "ring A\n", "again A\x7f", "worn ?\x1f", "dead \xff",
	"wind " + strings.Repeat("N", 56), "ring " + strings.Repeat("A", 56), "again " + strings.Repeat("A", 55), "worn " + strings.Repeat("?", 56), "dead " + strings.Repeat("A", 56),
	"day" + strings.Repeat(" ", 57), strings.Repeat("day", 20), strings.Repeat("day ", 100000),
}

func TestSyntax(t *testing.T) {
	d := begin(t)
	do(t, d, api.ErrSyntax, noOrders...)
	if len(d.Pages()) != 0 || d.Root() != 0 || d.Day() != 0 {
		t.Errorf("a decoy that refused all: %q, %d, %d", d.Pages(), d.Root(), d.Day())
	}
	// The form comes before the number of pages.
	do(t, full(t), api.ErrSyntax, noOrders...)
}

// TestLarge tests that the number of pages comes before the errors of the orders.
func TestLarge(t *testing.T) {
	d := full(t)
	a, b, wrong := ringOf(t, "A", 1), ringOf(t, "A", 2), "A000009"
	if ring.Valid(wrong) != api.ErrCheck {
		t.Fatal(wrong)
	}
	do(t, d, api.ErrLarge, "day", "shot", "wind N", "wind X", "wind "+strings.Repeat("N", 55), "work 0", "work 1", "work 2", "work 99",
		"ring "+a, "ring "+b, "ring "+wrong, "ring A", "again "+a, "again "+b, "again A", "worn A??????", "worn ?", "worn B??????", "worn "+strings.Repeat("?", 55),
		"dead "+a, "dead "+b, "dead "+wrong, "dead A", "ring "+strings.Repeat("A", 55), "again "+strings.Repeat("A", 54))
	if d.Day() != 61 || len(d.Pages()) != 64 || len(d.Birds()) != 1 || d.Birds()[0].Dead {
		t.Errorf("a full decoy has changed: %d, %q, %v", d.Day(), d.Pages(), d.Birds())
	}
	if d := begin(t, slices.Repeat([]string{"shot"}, 64)...); d.Do("shot") != api.ErrLarge {
		t.Error("a page 65")
	}
}

func TestWind(t *testing.T) {
	for p := range 32 {
		name, _ := wind.Name(p)
		d := begin(t)
		if q, known := d.Wind(); q != 0 || known {
			t.Errorf("the wind of a new decoy: %d, %t", q, known)
		}
		do(t, d, api.ErrSyntax, "wind X", "wind n", "wind "+name+"N", "wind "+name+".", "wind 0", "wind NBE", "wind north", "wind EN")
		do(t, d, api.OK, "wind "+name)
		if q, known := d.Wind(); q != p || !known {
			t.Errorf("the wind %s: %d, %t", name, q, known)
		}
		do(t, d, api.ErrState, "wind "+name, "wind N", "wind SW")
		// The error of the name comes first.
		do(t, d, api.ErrSyntax, "wind X", "wind n")
		do(t, d, api.OK, "day")
		if q, known := d.Wind(); q != 0 || known {
			t.Errorf("the wind of a new day: %d, %t", q, known)
		}
		do(t, d, api.OK, "wind S")
		if q, known := d.Wind(); q != 16 || !known {
			t.Errorf("the wind of the second day: %d, %t", q, known)
		}
	}
}

func TestDay(t *testing.T) {
	d := begin(t)
	for day := range 64 {
		if d.Day() != day {
			t.Errorf("Day: %d, want %d", d.Day(), day)
		}
		do(t, d, api.OK, "day")
	}
	if d.Day() != 64 {
		t.Errorf("Day: %d, want 64", d.Day())
	}
}

func TestWork(t *testing.T) {
	for p := range 32 {
		name, _ := wind.Name(p)
		for pipe, points := range [][]int{{30, 31, 0, 1, 2, 3, 4, 5, 6, 7, 8}, {18, 19, 20, 21, 22}} {
			want := api.ErrRule
			if slices.Contains(points, p) {
				want = api.OK
			}
			do(t, begin(t, "wind "+name), want, "work "+string(rune('0'+pipe)))
		}
	}
	d := begin(t)
	do(t, d, api.ErrNone, "work 2", "work 9", "work 10", "work 99") // before the wind is known
	do(t, d, api.ErrState, "work 0", "work 1")
	do(t, d, api.OK, "shot")
	do(t, d, api.ErrState, "work 0", "work 1") // before the shot
	do(t, d, api.OK, "wind SW")
	do(t, d, api.ErrNone, "work 2", "work 99")
	do(t, d, api.ErrRule, "work 0", "work 1")
	if len(d.Worked()) != 0 {
		t.Errorf("Worked: %v", d.Worked())
	}
}

func TestWorkTwice(t *testing.T) {
	all := slices.Repeat([]api.Arc{{From: 0, Width: 32}}, 10)
	d, e := decoy.New(all, nil)
	if e != api.OK {
		t.Fatalf("New: %d", e)
	}
	do(t, d, api.OK, "wind NNW")
	done := []int{}
	for _, pipe := range []int{7, 0, 9, 3, 1, 8, 2, 6, 5, 4} {
		order := "work " + string(rune('0'+pipe))
		do(t, d, api.OK, order)
		do(t, d, api.ErrTwice, order)
		done = append(done, pipe)
		slices.Sort(done)
		if !slices.Equal(d.Worked(), done) {
			t.Errorf("Worked: %v, want %v", d.Worked(), done)
		}
	}
	do(t, d, api.ErrNone, "work 10", "work 11")
	do(t, d, api.OK, "shot")
	do(t, d, api.ErrRule, "work 7", "work 0") // before ErrTwice
	if !slices.Equal(d.Worked(), done) {
		t.Errorf("Worked behind a shot: %v", d.Worked())
	}
	do(t, d, api.OK, "day")
	if len(d.Worked()) != 0 {
		t.Errorf("Worked on a new day: %v", d.Worked())
	}
	do(t, d, api.ErrState, "work 7")
}

func TestQuiet(t *testing.T) {
	for first := range 5 { // the day of a shot
		d := begin(t, slices.Repeat([]string{"day"}, first)...)
		do(t, d, api.OK, "wind N", "work 0", "shot")
		for range 7 {
			do(t, d, api.OK, "day", "wind N")
			do(t, d, api.ErrRule, "work 0", "work 1")
		}
		do(t, d, api.OK, "day", "wind N", "work 0")
		if d.Day() != first+8 {
			t.Errorf("the first day on which a pipe is worked: %d", d.Day())
		}
	}
	// A later shot begins the quiet again; two on one day are as one.
	d := begin(t, "shot", "shot", "day", "day", "day", "day", "day", "shot", "shot", "day", "day", "day", "wind N")
	do(t, d, api.ErrRule, "work 0")
	do(t, d, api.OK, "day", "day", "day", "day", "wind N")
	do(t, d, api.ErrRule, "work 0")
	do(t, d, api.OK, "day", "wind N", "work 0")
	if d.Day() != 13 {
		t.Errorf("Day: %d", d.Day())
	}
}

// TestExamples tests the examples of the chapter.
func TestExamples(t *testing.T) {
	d, e := decoy.New([]api.Arc{{From: 0, Width: 8}}, nil)
	if e != api.OK {
		t.Fatalf("New: %d", e)
	}
	do(t, d, api.OK, "wind S")
	do(t, d, api.ErrRule, "work 0")
	do(t, d, api.OK, "day", "wind NE", "work 0")
	do(t, d, api.OK, "day", "day", "shot")
	for day := 3; day <= 10; day++ {
		do(t, d, api.OK, "wind NE")
		do(t, d, api.ErrRule, "work 0")
		do(t, d, api.OK, "day")
	}
	do(t, d, api.OK, "wind NE", "work 0")
	do(t, d, api.ErrSyntax, "worn ??????")
}

func TestNew(t *testing.T) {
	arc, block := api.Arc{From: 0, Width: 1}, api.Block{Series: "A", From: 0, To: 1}
	many := make([]api.Block, 9)
	for _, x := range []struct {
		pipes  []api.Arc
		blocks []api.Block
		want   api.Errno
	}{
		{nil, nil, api.OK},
		{[]api.Arc{}, []api.Block{}, api.OK},
		{slices.Repeat([]api.Arc{arc}, 10), []api.Block{block}, api.OK},
		{slices.Repeat([]api.Arc{arc}, 11), nil, api.ErrLarge},
		{make([]api.Arc, 11), many, api.ErrLarge},
		{[]api.Arc{arc, {From: 32, Width: 1}}, many, api.ErrArg},
		{[]api.Arc{{From: -1, Width: 1}}, []api.Block{{Series: "", From: 0, To: 0}}, api.ErrArg},
		{[]api.Arc{{From: 0, Width: 33}}, nil, api.ErrArg},
		{[]api.Arc{{From: 0, Width: 0}}, nil, api.ErrArg},
		{[]api.Arc{arc}, many, api.ErrLarge},
		{nil, []api.Block{{Series: "a", From: 0, To: 0}}, api.ErrSyntax},
		{nil, []api.Block{{Series: "A", From: 1, To: 0}}, api.ErrArg},
		{nil, []api.Block{block, {Series: "B", From: 0, To: 100000}}, api.ErrArg},
		{nil, []api.Block{block, {Series: "A", From: 1, To: 2}}, api.ErrTwice},
	} {
		d, e := decoy.New(x.pipes, x.blocks)
		if e != x.want || (d == nil) != (e != api.OK) {
			t.Errorf("New(%v, %v): %v, %d, want %d", x.pipes, x.blocks, d, e, x.want)
		}
		r, n, e := decoy.Replay(x.pipes, x.blocks, []string{"day", "bad"})
		if x.want != api.OK && (r != nil || n != 0 || e != x.want) || x.want == api.OK && (r != nil || n != 1 || e != api.ErrSyntax) {
			t.Errorf("Replay(%v, %v): %v, %d, %d, want %d", x.pipes, x.blocks, r, n, e, x.want)
		}
		// The error of New comes before that of the number of orders.
		codes, root, e := decoy.Run(x.pipes, x.blocks, make([]string, 65))
		if x.want != api.OK && e != x.want || x.want == api.OK && e != api.ErrLarge || len(codes) != 0 || root != 0 {
			t.Errorf("Run(%v, %v): %v, %d, %d, want %d", x.pipes, x.blocks, codes, root, e, x.want)
		}
		if d == nil {
			continue
		}
		if _, known := d.Wind(); known || d.Day() != 0 || d.Root() != 0 || len(d.Worked())+len(d.Birds())+len(d.Pages()) != 0 || !d.Audit() {
			t.Errorf("New(%v, %v) is not empty", x.pipes, x.blocks)
		}
	}
}
