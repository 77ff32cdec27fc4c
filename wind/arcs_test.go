package wind_test

import (
	"math"
	"slices"
	"testing"

	"wigeon/api"
	"wigeon/wind"
)

func TestPointsOfAllArcs(t *testing.T) {
	for from := range 32 {
		for width := 1; width <= 32; width++ {
			a := arc(from, width)
			if e := wind.ValidateArc(a); e != api.OK {
				t.Errorf("ValidateArc(%v): %d", a, e)
			}
			want := number(wantPoints(a))
			if n, e := wind.Points(a); n != want || e != api.OK {
				t.Errorf("Points(%v): %x, %d, want %x", a, n, e, want)
			}
			only := []api.Arc{a}
			if width == 32 {
				only = []api.Arc{arc(0, 32)}
			}
			if l, e := wind.Arcs(want); !slices.Equal(l, only) || e != api.OK {
				t.Errorf("Arcs(%x): %v, %d, want %v", want, l, e, only)
			}
		}
	}
}

func TestErrorsOfArcs(t *testing.T) {
	for _, a := range notArcs() {
		if e := wind.ValidateArc(a); e != api.ErrArg {
			t.Errorf("ValidateArc(%v): %d", a, e)
		}
		if n, e := wind.Points(a); n != 0 || e != api.ErrArg {
			t.Errorf("Points(%v): %d, %d", a, n, e)
		}
	}
}

func TestArcs(t *testing.T) {
	for _, c := range []struct {
		set  int
		want []api.Arc
	}{
		{0, nil},
		{1, []api.Arc{arc(0, 1)}},
		{1 << 31, []api.Arc{arc(31, 1)}},
		{1<<31 | 1, []api.Arc{arc(31, 2)}},
		{0xC0000003, []api.Arc{arc(30, 4)}},
		{0xFFFFFFFF, []api.Arc{arc(0, 32)}},
		{0xFFFFFFFE, []api.Arc{arc(1, 31)}},
		{0x7FFFFFFF, []api.Arc{arc(0, 31)}},
		{0xFFFFFFFF - 1<<9 - 1<<11, []api.Arc{arc(10, 1), arc(12, 29)}},
		// The arc over north is the last one.
		{1<<31 | 1<<5 | 3, []api.Arc{arc(5, 1), arc(31, 3)}},
		{0b1100_1110_0001, []api.Arc{arc(0, 1), arc(5, 3), arc(10, 2)}},
	} {
		if l, e := wind.Arcs(c.set); !slices.Equal(l, c.want) || e != api.OK {
			t.Errorf("Arcs(%x): %v, %d, want %v", c.set, l, e, c.want)
		}
	}
}

// TestArcsOfSets tests that arcs have the points of the set, are in ascending
// order, and leave a point free between them, on both sides.
func TestArcsOfSets(t *testing.T) {
	for _, set := range someSets() {
		l, e := wind.Arcs(set)
		if e != api.OK || !slices.IsSortedFunc(l, func(a, b api.Arc) int { return a.From - b.From }) {
			t.Fatalf("Arcs(%x): %v, %d", set, l, e)
		}
		var points [32]bool
		for _, a := range l {
			for p, is := range wantPoints(a) {
				if is && points[p] {
					t.Fatalf("Arcs(%x): %v, the point %d comes twice", set, l, p)
				}
				points[p] = points[p] || is
			}
		}
		if number(points) != set {
			t.Fatalf("Arcs(%x): %v", set, l)
		}
		for _, a := range l {
			if a.Width < 32 && (points[modulo(a.From-1)] || points[modulo(a.From+a.Width)]) {
				t.Fatalf("Arcs(%x): %v, %v touches another one", set, l, a)
			}
		}
	}
	if l, e := wind.Arcs(0x55555555); len(l) != 16 || e != api.OK {
		t.Errorf("Arcs of every other point: %v, %d", l, e)
	}
}

func TestTurn(t *testing.T) {
	turns := []int{0, 1, -1, 8, 16, 31, 32, 33, -31, -32, -33, 64, -64, 1000003, -1000003,
		math.MaxInt, math.MaxInt - 1, math.MinInt, math.MinInt + 1, 1 << 32, -1 << 32, 1<<32 + 5, 1 << 62}
	for _, set := range someSets() {
		for _, by := range turns {
			var want [32]bool
			for p, is := range members(set) {
				want[modulo(p+modulo(by))] = is
			}
			if n, e := wind.Turn(set, by); n != number(want) || e != api.OK {
				t.Fatalf("Turn(%x, %d): %x, %d, want %x", set, by, n, e, number(want))
			}
		}
	}
}

func TestMirror(t *testing.T) {
	for _, set := range someSets() {
		var want [32]bool
		for p, is := range members(set) {
			want[modulo(-p)] = is
		}
		if n, e := wind.Mirror(set); n != number(want) || e != api.OK {
			t.Fatalf("Mirror(%x): %x, %d, want %x", set, n, e, number(want))
		}
	}
	for set, want := range map[int]int{0: 0, 1: 1, 2: 1 << 31, 1 << 8: 1 << 24, 1 << 16: 1 << 16, 1<<32 - 1: 1<<32 - 1} {
		if n, e := wind.Mirror(set); n != want || e != api.OK {
			t.Errorf("Mirror(%x): %x, %d, want %x", set, n, e, want)
		}
	}
}

func TestErrorsOfSets(t *testing.T) {
	for _, set := range notSets {
		if l, e := wind.Arcs(set); len(l) != 0 || e != api.ErrArg {
			t.Errorf("Arcs(%d): %v, %d", set, l, e)
		}
		for _, by := range []int{0, 1, -7} {
			if n, e := wind.Turn(set, by); n != 0 || e != api.ErrArg {
				t.Errorf("Turn(%d, %d): %d, %d", set, by, n, e)
			}
		}
		if n, e := wind.Mirror(set); n != 0 || e != api.ErrArg {
			t.Errorf("Mirror(%d): %d, %d", set, n, e)
		}
	}
}
