package decoy_test

import (
	"slices"
	"sync"
	"testing"

	"wigeon/api"
	"wigeon/book"
	"wigeon/decoy"
)

func TestNil(t *testing.T) {
	var d *decoy.Decoy
	for _, order := range []string{"day", "wind N", "bad", ""} {
		if e := d.Do(order); e != api.ErrArg {
			t.Errorf("Do(%q): %d", order, e)
		}
	}
	if p, known := d.Wind(); p != 0 || known || d.Day() != 0 || d.Root() != 0 || d.Audit() || len(d.Worked())+len(d.Birds())+len(d.Pages()) != 0 {
		t.Error("a nil decoy has something")
	}
	for _, text := range []string{ringOf(t, "A", 0), "A", "A000009", ""} {
		if b, e := d.Bird(text); !sameBird(b, decoy.Bird{}) || e != api.ErrArg {
			t.Errorf("Bird(%q): %v, %d", text, b, e)
		}
	}
	for _, n := range []int{-1, 0, 1} {
		if x, e := d.Left(n); x != 0 || e != api.ErrArg {
			t.Errorf("Left(%d): %d, %d", n, x, e)
		}
		if x, e := d.Catch(n); x != (api.Catch{}) || e != api.ErrArg {
			t.Errorf("Catch(%d): %v, %d", n, x, e)
		}
		if x, e := d.Guess(n); x != (api.Rat{}) || e != api.ErrArg {
			t.Errorf("Guess(%d): %v, %d", n, x, e)
		}
		if x, e := d.Prove(n); len(x) != 0 || e != api.ErrArg {
			t.Errorf("Prove(%d): %v, %d", n, x, e)
		}
	}
}

// TestZeroDecoy tests that a decoy that New did not make is one without pipes and
// blocks.
func TestZeroDecoy(t *testing.T) {
	var d decoy.Decoy
	do(t, &d, api.ErrNone, "work 0", "ring "+ringOf(t, "A", 0), "again "+ringOf(t, "A", 0), "worn ???????")
	do(t, &d, api.OK, "wind S", "shot", "day")
	if d.Day() != 1 || !d.Audit() {
		t.Errorf("a zero decoy: %d, %t", d.Day(), d.Audit())
	}
}

// TestMemory tests that a decoy shares no memory with arguments and results.
func TestMemory(t *testing.T) {
	pipes, blocks, pages := twoPipes(), someBlocks(), someSeason(t)
	h := &history{pipes: twoPipes(), blocks: someBlocks()}
	for _, page := range pages {
		if e := h.do(page); e != api.OK {
			t.Fatalf("%q: %d", page, e)
		}
	}
	d, _, e := decoy.Replay(pipes, blocks, pages)
	if e != api.OK || !slices.Equal(pages, someSeason(t)) || !slices.Equal(pipes, twoPipes()) || !slices.Equal(blocks, someBlocks()) {
		t.Fatalf("Replay: %d", e)
	}
	clear(pipes)
	clear(blocks)
	clear(pages)
	check(t, d, h)
	clear(d.Pages())
	for _, b := range d.Birds() {
		clear(b.Days)
		x, _ := d.Bird(b.Ring)
		clear(x.Days)
		_ = append(x.Days[:0], 99, 99)
	}
	clear(d.Birds())
	proof, _ := d.Prove(3)
	clear(proof)
	check(t, d, h)
	// An earlier result stays as it was.
	early, worked := d.Birds(), d.Worked()
	l := []string{"day", "day", "day", "day", "day", "day", "day", "wind N", "work 0"}
	for _, order := range append(l, "worn ????????", "dead "+ringOf(t, "BC", 5)) {
		do(t, d, h.do(order), order)
	}
	if early[2].Dead || !slices.Equal(early[2].Days, []int{1, 2}) || len(worked) != 0 {
		t.Errorf("an earlier result has changed: %v, %v", early, worked)
	}
	worked = d.Worked()
	clear(worked)
	_ = append(worked[:0], 7)
	check(t, d, h)
}

// TestMoments tests that each call of several goroutines takes effect at one
// moment: of all days that they begin, as many are accepted as there may be pages.
func TestMoments(t *testing.T) {
	for range 50 {
		d := begin(t)
		var group sync.WaitGroup
		accepted := make([]int, 8)
		for i := range accepted {
			group.Go(func() {
				for range 20 {
					if d.Do("day") == api.OK {
						accepted[i]++
					}
				}
			})
		}
		group.Wait()
		total := 0
		for _, n := range accepted {
			total += n
		}
		if total != 64 || d.Day() != 64 || len(d.Pages()) != 64 || !d.Audit() {
			t.Fatalf("%d days are accepted, %d have begun, with %d pages", total, d.Day(), len(d.Pages()))
		}
	}
}

// TestReaders tests that goroutines that ask see a decoy as it is between two
// orders.
func TestReaders(t *testing.T) {
	l := someSeason(t)
	for range 20 {
		d := begin(t)
		var group sync.WaitGroup
		group.Go(func() {
			for _, order := range l {
				d.Do(order)
			}
		})
		for range 4 {
			group.Go(func() {
				for last := 0; last < len(l); {
					pages := d.Pages()
					last = len(pages)
					if !slices.Equal(pages, l[:last]) || !d.Audit() {
						t.Errorf("Pages: %q", pages)
					}
					root := d.Root()
					if !slices.ContainsFunc(moments(l[last:], pages), func(x int) bool { return x == root }) {
						t.Errorf("Root: %d, behind %d pages", root, last)
					}
					seeAll(t, d)
				}
			})
		}
		group.Wait()
	}
}

// moments returns the roots of pages, and of them with some or all of the next ones.
func moments(next, pages []string) []int {
	var roots []int
	for n := range len(next) + 1 {
		root, _ := book.Root(append(slices.Clone(pages), next[:n]...))
		roots = append(roots, root)
	}
	return roots
}

// seeAll calls the other methods that ask.
func seeAll(t *testing.T, d *decoy.Decoy) {
	for _, b := range d.Birds() {
		if x, e := d.Bird(b.Ring); e != api.OK || len(x.Days) < len(b.Days) {
			t.Errorf("Bird(%q): %v, %d, before %v", b.Ring, x, e, b)
		}
	}
	if p, known := d.Wind(); !known && p != 0 {
		t.Errorf("Wind: %d, %t", p, known)
	}
	if w := d.Worked(); len(w) > 1 {
		t.Errorf("Worked: %v", w)
	}
	day := d.Day()
	c, e := d.Catch(day)
	_, f := d.Guess(day)
	n, g := d.Left(0)
	if e != api.OK || f != api.OK || g != api.OK || c.Again > c.Caught || n < 98 {
		t.Errorf("Catch(%d): %v, %d, %d, Left %d, %d", day, c, e, f, n, g)
	}
	if l := d.Pages(); len(l) > 0 {
		if _, e := d.Prove(len(l) - 1); e != api.OK {
			t.Errorf("Prove(%d): %d", len(l)-1, e)
		}
	}
}
