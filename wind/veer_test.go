package wind_test

import (
	"math/rand/v2"
	"slices"
	"testing"

	"wigeon/api"
	"wigeon/wind"
)

func TestAcross(t *testing.T) {
	for from := range 32 {
		for to := range 32 {
			n := across1(t, from, to)
			if n < -15 || n > 16 || modulo(n) != modulo(to-from) {
				t.Errorf("Across(%d, %d): %d", from, to, n)
			}
		}
	}
	for _, c := range [][3]int{{30, 2, 4}, {2, 30, -4}, {0, 16, 16}, {16, 0, 16}, {31, 15, 16}, {15, 31, 16}, {0, 17, -15}, {17, 0, 15}, {9, 9, 0}} {
		if n := across1(t, c[0], c[1]); n != c[2] {
			t.Errorf("Across(%d, %d): %d, want %d", c[0], c[1], n, c[2])
		}
	}
	for _, p := range notPoints {
		for _, c := range [][2]int{{p, 0}, {0, p}, {p, p}} {
			if n, e := wind.Across(c[0], c[1]); n != 0 || e != api.ErrArg {
				t.Errorf("Across(%d, %d): %d, %d", c[0], c[1], n, e)
			}
		}
	}
}

func TestVeer(t *testing.T) {
	halves := slices.Repeat([]int{0, 16}, 30)
	for _, c := range []struct {
		winds []int
		want  int
	}{
		{nil, 0},
		{[]int{}, 0},
		{[]int{31}, 0},
		{[]int{30, 2}, 4},
		{[]int{2, 30}, -4},
		{[]int{0, 8, 16, 24, 0}, 32},
		{[]int{0, 24, 16, 8, 0}, -32},
		{[]int{0, 10, 20, 30, 8, 18, 28, 6, 16, 26, 4}, 100},
		{[]int{3, 1, 3}, 0},
		{[]int{5, 5, 5}, 0},
		{[]int{0, 16, 0}, 32},
		// As many winds as there may be: the half turns all go the same way.
		{halves, 59 * 16},
	} {
		if n, e := wind.Veer(c.winds); n != c.want || e != api.OK {
			t.Errorf("Veer(%v): %d, %d, want %d", c.winds, n, e, c.want)
		}
	}
}

// TestVeerOfRounds tests that Veer is the sum of Across, and a multiple of 32
// if the last wind is the first one.
func TestVeerOfRounds(t *testing.T) {
	r := rand.New(rand.NewPCG(3, 3))
	for range 500 {
		winds := make([]int, 1+r.IntN(59))
		for i := range winds {
			winds[i] = r.IntN(32)
		}
		winds = append(winds, winds[0])
		want := 0
		for i, w := range winds[1:] {
			want += across1(t, winds[i], w)
		}
		before := slices.Clone(winds)
		n, e := wind.Veer(winds)
		if n != want || n%32 != 0 || e != api.OK || !slices.Equal(winds, before) {
			t.Fatalf("Veer(%v): %d, %d, want %d", winds, n, e, want)
		}
	}
}

func TestErrorsOfVeer(t *testing.T) {
	for _, p := range notPoints {
		for _, winds := range [][]int{{p}, {p, 0}, {0, p}, append(make([]int, 59), p), append([]int{p}, make([]int, 59)...)} {
			if n, e := wind.Veer(winds); n != 0 || e != api.ErrArg {
				t.Errorf("Veer(%v): %d, %d", winds, n, e)
			}
		}
		if n, e := wind.Veer(append(make([]int, 60), p)); n != 0 || e != api.ErrLarge {
			t.Errorf("Veer of 61 winds with %d: %d, %d", p, n, e)
		}
	}
	for _, count := range []int{61, 62, 1000} {
		if n, e := wind.Veer(make([]int, count)); n != 0 || e != api.ErrLarge {
			t.Errorf("Veer of %d winds: %d, %d", count, n, e)
		}
	}
}

// chapterNames are the names as the chapter lists them.
var chapterNames = []string{
	"N", "NbE", "NNE", "NEbN", "NE", "NEbE", "ENE", "EbN", "E", "EbS", "ESE", "SEbE", "SE", "SEbS", "SSE", "SbE",
	"S", "SbW", "SSW", "SWbS", "SW", "SWbW", "WSW", "WbS", "W", "WbN", "WNW", "NWbW", "NW", "NWbN", "NNW", "NbW",
}

func TestNames(t *testing.T) {
	for p, want := range chapterNames {
		if name, e := wind.Name(p); name != want || e != api.OK {
			t.Errorf("Name(%d): %q, %d, want %q", p, name, e, want)
		}
		if n, e := wind.Point(want); n != p || e != api.OK {
			t.Errorf("Point(%q): %d, %d, want %d", want, n, e, p)
		}
	}
	for _, p := range notPoints {
		if name, e := wind.Name(p); name != "" || e != api.ErrArg {
			t.Errorf("Name(%d): %q, %d", p, name, e)
		}
	}
	for _, name := range []string{"", "n", "nbe", "NBE", "Nbe", "N ", " N", "NE\n", "NbN", "NNN", "EN", "ES", "NEE", "NEbS", "WS", "0", "north", "N\x00", "Ñ", "\xff", "NbEN"} {
		if n, e := wind.Point(name); n != 0 || e != api.ErrSyntax {
			t.Errorf("Point(%q): %d, %d", name, n, e)
		}
	}
}
