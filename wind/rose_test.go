package wind_test

import (
	"math"
	"math/rand/v2"
	"testing"

	"wigeon/api"
	"wigeon/wind"
)

// someRoses returns roses that are always the same; small numbers make arcs
// with equal sums.
func someRoses() [][32]int {
	r := rand.New(rand.NewPCG(3, 4))
	all := make([][32]int, 60)
	for i := range all {
		for p := range all[i] {
			all[i][p] = r.IntN([]int{2, 4, 100, api.MaxRose + 1}[i%4])
		}
	}
	var none, most, one [32]int
	for p := range most {
		most[p] = api.MaxRose
	}
	one[31] = 1
	return append(all, none, most, one)
}

// wrongRoses returns roses with one number that is out of range.
func wrongRoses() [][32]int {
	var all [][32]int
	for p := range 32 {
		for _, n := range []int{-1, 10001, math.MinInt, math.MaxInt} {
			var rose [32]int
			rose[p] = n
			all = append(all, rose)
		}
	}
	return all
}

func TestSum(t *testing.T) {
	for _, rose := range someRoses() {
		for from := range 32 {
			for width := 1; width <= 32; width++ {
				a := arc(from, width)
				if n, e := wind.Sum(rose, a); n != wantSum(rose, a) || e != api.OK {
					t.Fatalf("Sum(%v, %v): %d, %d, want %d", rose, a, n, e, wantSum(rose, a))
				}
			}
		}
	}
	for _, rose := range wrongRoses() {
		// A wrong number decides where the arc lacks it, too.
		for _, a := range []api.Arc{arc(0, 1), arc(31, 1), arc(7, 32), arc(32, 0)} {
			if n, e := wind.Sum(rose, a); n != 0 || e != api.ErrArg {
				t.Errorf("Sum(%v, %v): %d, %d", rose, a, n, e)
			}
		}
	}
	for _, a := range notArcs() {
		if n, e := wind.Sum([32]int{1, 2, 3}, a); n != 0 || e != api.ErrArg {
			t.Errorf("Sum of %v: %d, %d", a, n, e)
		}
	}
}

func TestBest(t *testing.T) {
	for _, rose := range someRoses() {
		for width := 1; width <= 32; width++ {
			want := arc(0, width)
			for from := range 32 {
				if wantSum(rose, arc(from, width)) > wantSum(rose, want) {
					want.From = from
				}
			}
			if a, n, e := wind.Best(rose, width); a != want || n != wantSum(rose, want) || e != api.OK {
				t.Fatalf("Best(%v, %d): %v, %d, %d, want %v, %d", rose, width, a, n, e, want, wantSum(rose, want))
			}
		}
	}
	for _, rose := range wrongRoses() {
		for _, width := range []int{1, 32, 33} {
			if a, n, e := wind.Best(rose, width); a != (api.Arc{}) || n != 0 || e != api.ErrArg {
				t.Errorf("Best(%v, %d): %v, %d, %d", rose, width, a, n, e)
			}
		}
	}
	for _, width := range []int{0, -1, 33, math.MinInt, math.MaxInt} {
		if a, n, e := wind.Best([32]int{1, 2, 3}, width); a != (api.Arc{}) || n != 0 || e != api.ErrArg {
			t.Errorf("Best of the width %d: %v, %d, %d", width, a, n, e)
		}
	}
}
