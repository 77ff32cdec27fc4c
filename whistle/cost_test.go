package whistle_test

import (
	"math"
	"math/rand/v2"
	"slices"
	"testing"

	"wigeon/api"
	"wigeon/whistle"
)

// wrongWeights returns lists that are no weights.
func wrongWeights() [][]int {
	l := [][]int{nil, {}, make([]int, 13), slices.Repeat([]int{1001}, 13), make([]int, 100000)}
	for _, n := range []int{-1, 1001, 1002, -1000, 1 << 32, math.MaxInt, math.MinInt} {
		l = append(l, []int{n}, []int{3, n}, []int{n, 3}, append(make([]int, 11), n))
	}
	return l
}

func TestCost(t *testing.T) {
	for _, c := range []struct {
		weights []int
		code    []string
		want    int
	}{
		{[]int{5, 1, 1}, first(), 9},
		{[]int{0, 0, 0}, first(), 0},
		{[]int{1000}, []string{dots(12)}, 12000},
		{[]int{1, 10, 100, 1000}, []string{"----", "---", "--", "-"}, 1234},
		{slices.Repeat([]int{1000}, 12), allDots(), 78000},
	} {
		if n, e := whistle.Cost(c.weights, c.code); n != c.want || e != api.OK {
			t.Errorf("Cost(%v, %q): %d, %d, want %d", c.weights, c.code, n, e, c.want)
		}
	}
	for _, code := range [][]string{{"."}, {".", "-"}, allDots()} {
		for _, weights := range wrongWeights() {
			if n, e := whistle.Cost(weights, code); n != 0 || e != api.ErrArg {
				t.Errorf("Cost of %d weights, %q: %d, %d", len(weights), code, n, e)
			}
		}
		for _, count := range []int{len(code) - 1, len(code) + 1} {
			if n, e := whistle.Cost(make([]int, count), code); n != 0 || e != api.ErrArg {
				t.Errorf("Cost of %d weights, %q: %d, %d", count, code, n, e)
			}
		}
	}
}

// wantCheapest returns the smallest cost of a code for weights: the more often a
// signal is used, the sooner it gets its note, as long as there is room for the
// others. From each depth to the next there is twice the room, and all signals
// that wait cost a note more.
func wantCheapest(weights []int) int {
	falling := slices.Clone(weights)
	slices.SortFunc(falling, func(a, b int) int { return b - a })
	var from func(waiting []int, room int) int
	from = func(waiting []int, room int) int {
		if room >= len(waiting) {
			return 0
		}
		best := math.MaxInt
		for placed := range room {
			rest := waiting[placed:]
			best = min(best, sum(rest)+from(rest, 2*(room-placed)))
		}
		return best
	}
	return sum(falling) + from(falling, 2)
}

func sum(l []int) int {
	n := 0
	for _, k := range l {
		n += k
	}
	return n
}

// checkCheapest tests what Cheapest makes of weights.
func checkCheapest(t *testing.T, weights []int, want int) {
	t.Helper()
	given := slices.Clone(weights)
	lengths, n, e := whistle.Cheapest(weights)
	if n != want || e != api.OK || !slices.Equal(weights, given) {
		t.Fatalf("Cheapest(%v): %v, %d, %d, want %d", given, lengths, n, e, want)
	}
	code, e := whistle.FromLengths(lengths)
	if len(code) != len(weights) || e != api.OK || wantCost(weights, code) != want {
		t.Fatalf("Cheapest(%v): %v, with the code %q, %d", weights, lengths, code, e)
	}
	if cost, e := whistle.Cost(weights, code); cost != want || e != api.OK {
		t.Fatalf("Cost(%v, %q): %d, %d, want %d", weights, code, cost, e, want)
	}
	if again, _, _ := whistle.Cheapest(weights); !slices.Equal(again, lengths) {
		t.Fatalf("Cheapest(%v): %v, and then %v", weights, lengths, again)
	}
}

func TestCheapest(t *testing.T) {
	for _, c := range []struct {
		weights []int
		want    int
	}{
		{[]int{5, 1, 1}, 9}, {[]int{7}, 7}, {[]int{0}, 0}, {[]int{1000}, 1000}, {[]int{1, 1, 1, 1}, 8}, {[]int{0, 0, 3}, 3},
		{[]int{3, 0, 0}, 3}, {[]int{0, 0}, 0}, {[]int{1, 1, 2, 4, 8}, 30}, {make([]int, 12), 0},
		{slices.Repeat([]int{1000}, 12), 44000}, {slices.Repeat([]int{1}, 8), 24},
		// The signals are as long as they can be with these weights.
		{[]int{1, 1, 2, 3, 5, 8, 13, 21, 34, 55, 89, 144}, 971},
	} {
		checkCheapest(t, c.weights, c.want)
	}
	for _, weights := range wrongWeights() {
		if l, n, e := whistle.Cheapest(weights); len(l) != 0 || n != 0 || e != api.ErrArg {
			t.Errorf("Cheapest of %d weights: %v, %d, %d", len(weights), l, n, e)
		}
	}
}

// TestCheapestOfAll tests that no safe code at all is cheaper.
func TestCheapestOfAll(t *testing.T) {
	var safe [][]string
	smallCodes(func(code []string) {
		if wantSafe(code) {
			safe = append(safe, code)
		}
	})
	for n := range 5 * 5 * 5 {
		weights := []int{n % 5, n / 5 % 5, n / 25}
		for count := 1; count <= 3; count++ {
			best := math.MaxInt
			for _, code := range safe {
				if len(code) == count {
					best = min(best, wantCost(weights[:count], code))
				}
			}
			checkCheapest(t, weights[:count], best)
		}
	}
}

func TestCheapestOfSome(t *testing.T) {
	r := rand.New(rand.NewPCG(5, 3))
	for i := range 400 {
		most := []int{1, 5, 40, 1000}[i%4]
		weights := make([]int, r.IntN(12)+1)
		for k := range weights {
			weights[k] = r.IntN(most + 1)
			if i%3 == 0 { // few that are used often
				weights[k] /= 1 << r.IntN(10)
			}
		}
		checkCheapest(t, weights, wantCheapest(weights))
	}
}
