package decoy_test

import (
	"math"
	"slices"
	"testing"

	"wigeon/api"
	"wigeon/book"
	"wigeon/decoy"
)

// someSeason returns orders that are all accepted, of all kinds.
func someSeason(t *testing.T) []string {
	t.Helper()
	a, b, c := ringOf(t, "A", 3), ringOf(t, "A", 14), ringOf(t, "BC", 5)
	return []string{
		"wind NbW", "work 0", "ring " + a, "ring " + b, "day", "wind SSW", "work 1", "worn A0001??", "ring " + c, "dead " + a,
		"day", "wind E", "work 0", "again " + b, "worn ????????", "shot", "day", "wind SW", "day", "day", "shot", "dead " + b, "day", "wind W",
	}
}

func TestPages(t *testing.T) {
	l := someSeason(t)
	d := begin(t)
	checkPages(t, d, nil)
	for i, order := range l {
		do(t, d, api.OK, order)
		do(t, d, api.ErrSyntax, "night")
		checkPages(t, d, l[:i+1])
		for _, page := range []int{-1, i + 1, 64, math.MinInt, math.MaxInt} {
			if proof, e := d.Prove(page); len(proof) != 0 || e != api.ErrNone {
				t.Errorf("Prove(%d) of %d pages: %v, %d", page, i+1, proof, e)
			}
		}
	}
	for i, page := range d.Pages() {
		proof, _ := d.Prove(i)
		if e := book.CheckPage(d.Root(), page, i, len(l), proof); e != api.OK {
			t.Errorf("the page %d is not proved: %d", i, e)
		}
	}
	// The last page of a full decoy has a proof as well.
	d = full(t)
	proof, e := d.Prove(63)
	if f := book.CheckPage(d.Root(), d.Pages()[63], 63, 64, proof); len(proof) != 6 || e != api.OK || f != api.OK {
		t.Errorf("Prove(63): %v, %d, %d", proof, e, f)
	}
}

// TestGrowth tests that the growth of a decoy between two moments is proved.
func TestGrowth(t *testing.T) {
	l := someSeason(t)
	d := begin(t)
	var roots []int
	for n, order := range l {
		do(t, d, api.OK, order)
		roots = append(roots, d.Root())
		for m, root := range roots {
			proof, e := book.Growth(d.Pages(), m+1)
			if f := book.CheckGrowth(root, d.Root(), m+1, n+1, proof); e != api.OK || f != api.OK {
				t.Fatalf("the growth from %d to %d pages: %d, %d", m+1, n+1, e, f)
			}
		}
	}
}

// TestReplay tests that a decoy that is made again from its pages is the decoy.
func TestReplay(t *testing.T) {
	l := someSeason(t)
	for n := range len(l) + 1 {
		given := slices.Clone(l)
		d := begin(t, l[:n]...)
		x, pages, e := decoy.Replay(twoPipes(), someBlocks(), given[:n])
		if x == nil || pages != n || e != api.OK {
			t.Fatalf("Replay(%q): %v, %d, %d", l[:n], x, pages, e)
		}
		p, known := d.Wind()
		q, k := x.Wind()
		if x.Day() != d.Day() || p != q || known != k || !slices.Equal(x.Worked(), d.Worked()) || !slices.EqualFunc(x.Birds(), d.Birds(), sameBird) ||
			x.Root() != d.Root() || !slices.Equal(x.Pages(), d.Pages()) || !x.Audit() {
			t.Errorf("Replay(%q) is another decoy", l[:n])
		}
		// What comes later is the same, too: the day of the last shot is kept.
		for _, order := range append(l[n:], "wind N", "work 0", "day", "wind N", "work 0") {
			if e, f := d.Do(order), x.Do(order); e != f {
				t.Errorf("%q behind %q: %d, and %d in the decoy made again", order, l[:n], e, f)
			}
		}
		if x.Root() != d.Root() || !slices.Equal(given, l) {
			t.Errorf("behind Replay(%q)", l[:n])
		}
	}
}

func TestReplayRefuses(t *testing.T) {
	a := ringOf(t, "A", 0)
	many := slices.Repeat([]string{"day"}, 66)
	for _, x := range []struct {
		pages []string
		n     int
		want  api.Errno
	}{
		{[]string{"bad"}, 0, api.ErrSyntax},
		{[]string{"day", "day", "bad", "work 0", "bad"}, 2, api.ErrSyntax},
		{[]string{"day", "work 0", "bad"}, 1, api.ErrState}, // one by one
		{[]string{"day", "wind N", "work 0", "ring " + a, "ring " + a}, 4, api.ErrTwice},
		{[]string{"wind N", "work 0", "worn " + a}, 2, api.ErrNone},
		{[]string{"wind N", "work 1"}, 1, api.ErrRule},
		{[]string{"ring A000009"}, 0, api.ErrCheck},
		{many, 64, api.ErrLarge},
		{append(slices.Clone(many[:64]), "bad"), 64, api.ErrSyntax},
		{append(slices.Clone(many[:10]), ""), 10, api.ErrSyntax},
	} {
		if d, n, e := decoy.Replay(twoPipes(), someBlocks(), x.pages); d != nil || n != x.n || e != x.want {
			t.Errorf("Replay(%q): %v, %d, %d, want %d, %d", x.pages, d, n, e, x.n, x.want)
		}
	}
	if d, n, e := decoy.Replay(twoPipes(), someBlocks(), many[:64]); d == nil || n != 64 || e != api.OK || d.Day() != 64 {
		t.Errorf("Replay of 64 pages: %v, %d, %d", d, n, e)
	}
}

func TestRun(t *testing.T) {
	a := ringOf(t, "A", 0)
	orders := []string{"work 0", "wind N", "bad", "work 0", "work 0", "ring " + a, "ring A", "ring A000009", "worn ???????", "shot", "work 1", "worn B??????", "day", "again " + a}
	want := []api.Errno{api.ErrState, api.OK, api.ErrSyntax, api.OK, api.ErrTwice, api.OK, api.ErrSyntax, api.ErrCheck, api.ErrTwice, api.OK, api.ErrRule, api.ErrNone, api.OK, api.ErrState}
	root, _ := book.Root([]string{"wind N", "work 0", "ring " + a, "shot", "day"})
	given := slices.Clone(orders)
	codes, got, e := decoy.Run(twoPipes(), someBlocks(), orders)
	if !slices.Equal(codes, want) || got != root || e != api.OK || !slices.Equal(orders, given) {
		t.Errorf("Run(%q): %v, %d, %d, want %v, %d", given, codes, got, e, want, root)
	}
	if codes, got, e := decoy.Run(nil, nil, nil); len(codes) != 0 || got != 0 || e != api.OK {
		t.Errorf("Run of no orders: %v, %d, %d", codes, got, e)
	}
	many := slices.Repeat([]string{"day"}, 65)
	root, _ = book.Root(many[:64])
	if codes, got, e := decoy.Run(nil, nil, many[:64]); !slices.Equal(codes, make([]api.Errno, 64)) || got != root || e != api.OK {
		t.Errorf("Run of 64 orders: %v, %d, %d, want %d", codes, got, e, root)
	}
	for _, l := range [][]string{many, make([]string, 65), make([]string, 100000)} {
		if codes, got, e := decoy.Run(nil, nil, l); len(codes) != 0 || got != 0 || e != api.ErrLarge {
			t.Errorf("Run of %d orders: %v, %d, %d", len(l), codes, got, e)
		}
	}
}
