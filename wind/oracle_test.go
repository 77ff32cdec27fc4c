package wind_test

import (
	"math"
	"math/rand/v2"
	"slices"
	"testing"

	"wigeon/api"
	"wigeon/wind"
)

// The functions of this file find what the chapter's words ask for in the
// plainest way, to compare the package with it.

func arc(from, width int) api.Arc { return api.Arc{From: from, Width: width} }

// modulo returns x modulo 32, from 0 to 31.
func modulo(x int) int {
	return (x%32 + 32) % 32
}

// wantPoints returns the points of an arc, as a list of yes and no.
func wantPoints(a api.Arc) [32]bool {
	var points [32]bool
	for i := range a.Width {
		points[modulo(a.From+i)] = true
	}
	return points
}

// number writes a set of points as a number.
func number(points [32]bool) int {
	n, bit := 0, 1
	for _, is := range points {
		if is {
			n += bit
		}
		bit *= 2
	}
	return n
}

// members reads a set of points from a number.
func members(set int) [32]bool {
	var points [32]bool
	for p := range points {
		points[p] = set%2 == 1
		set /= 2
	}
	return points
}

func wantWorkable(l []api.Arc, w int) []int {
	var pipes []int
	for i, a := range l {
		if wantPoints(a)[w] {
			pipes = append(pipes, i)
		}
	}
	return pipes
}

func wantLee(l []api.Arc) int {
	var lee [32]bool
	for w := range lee {
		lee[w] = len(wantWorkable(l, w)) == 0
	}
	return number(lee)
}

func wantCovers(l []api.Arc, chosen []int) bool {
	var pipes []api.Arc
	for _, i := range chosen {
		pipes = append(pipes, l[i])
	}
	return wantLee(pipes) == 0
}

// sets returns all sets of count numbers from first to limit - 1, in ascending order.
func sets(first, limit, count int) [][]int {
	if count == 0 {
		return [][]int{nil}
	}
	var all [][]int
	for i := first; i < limit; i++ {
		for _, rest := range sets(i+1, limit, count-1) {
			all = append(all, append([]int{i}, rest...))
		}
	}
	return all
}

func wantFewest(l []api.Arc) ([]int, bool) {
	for count := range len(l) + 1 {
		for _, chosen := range sets(0, len(l), count) {
			if wantCovers(l, chosen) {
				return chosen, true
			}
		}
	}
	return nil, false
}

func wantAreApart(l []api.Arc, winds []int) bool {
	for _, a := range l {
		n := 0
		for _, w := range winds {
			if wantPoints(a)[w] {
				n++
			}
		}
		if n > 1 {
			return false
		}
	}
	return true
}

// wantApart returns how many winds of pipes are apart at most. It tries all
// sets of winds; of those with the same pipes it takes the first one only.
func wantApart(l []api.Arc) int {
	var winds []int
	var known [][]int
	for w := range 32 {
		pipes := wantWorkable(l, w)
		isKnown := slices.ContainsFunc(known, func(k []int) bool { return slices.Equal(k, pipes) })
		if len(pipes) > 0 && !isKnown {
			winds = append(winds, w)
			known = append(known, pipes)
		}
	}
	var most func(chosen []int, next int) int
	most = func(chosen []int, next int) int {
		best := len(chosen)
		for i := next; i < len(winds); i++ {
			more := append(slices.Clone(chosen), winds[i])
			if wantAreApart(l, more) {
				best = max(best, most(more, i+1))
			}
		}
		return best
	}
	return most(nil, 0)
}

func wantSum(rose [32]int, a api.Arc) int {
	total := 0
	for i := range a.Width {
		total += rose[modulo(a.From+i)]
	}
	return total
}

// someSets returns sets of points that are always the same: the random source
// has a fixed start.
func someSets() []int {
	all := []int{0, 1, 3, 1 << 31, 1<<31 | 1, 1<<32 - 1, 1<<32 - 2, 1<<31 - 1, 1<<32 - 1 - 1<<17, 0x55555555, 0xAAAAAAAA}
	r := rand.New(rand.NewPCG(3, 1))
	for range 500 {
		all = append(all, int(r.Uint32()), int(r.Uint32()&r.Uint32()&r.Uint32()), int(r.Uint32()|r.Uint32()|r.Uint32()))
	}
	return all
}

// somePipes returns lists of pipes, narrow ones and wide ones.
func somePipes(n int) [][]api.Arc {
	all := [][]api.Arc{nil, fourPipes(), {arc(0, 32)}, {arc(31, 32)}, {arc(31, 1)}, slices.Repeat([]api.Arc{arc(7, 9)}, 10)}
	r := rand.New(rand.NewPCG(3, 2))
	for i := range n {
		widest := 1 + i%32
		l := make([]api.Arc, r.IntN(api.MaxPipes+1))
		for k := range l {
			l[k] = arc(r.IntN(32), 1+r.IntN(widest))
		}
		all = append(all, l)
	}
	return all
}

// fourPipes returns four pipes of eight points each.
func fourPipes() []api.Arc {
	return []api.Arc{arc(0, 8), arc(8, 8), arc(16, 8), arc(24, 8)}
}

// notPoints are numbers that are no points.
var notPoints = []int{-1, 32, 33, -32, 64, math.MinInt, math.MaxInt, 1 << 32}

// notSets are numbers that are no sets of points.
var notSets = []int{-1, 1 << 32, 1<<32 + 1, -1 << 31, math.MinInt, math.MaxInt, 1 << 40}

// notArcs are arcs with a point or a width that is out of range.
func notArcs() []api.Arc {
	l := []api.Arc{arc(0, 0), arc(0, 33), arc(0, -1), arc(0, math.MinInt), arc(0, math.MaxInt), arc(-1, 33), arc(32, 0)}
	for _, p := range notPoints {
		l = append(l, arc(p, 1))
	}
	return l
}

// wrongPipes is a list that is not one of pipes, and its error.
type wrongPipes struct {
	l    []api.Arc
	want api.Errno
}

func pipeErrors() []wrongPipes {
	ten := slices.Repeat([]api.Arc{arc(0, 1)}, 10)
	all := []wrongPipes{
		{append(slices.Clone(ten), arc(0, 1)), api.ErrLarge},
		{make([]api.Arc, 11), api.ErrLarge},
		{make([]api.Arc, 100), api.ErrLarge},
		{make([]api.Arc, 10), api.ErrArg},
	}
	for _, a := range notArcs() {
		all = append(all,
			wrongPipes{[]api.Arc{a}, api.ErrArg},
			wrongPipes{append(slices.Clone(ten[1:]), a), api.ErrArg},
			wrongPipes{append([]api.Arc{a}, ten[1:]...), api.ErrArg},
			wrongPipes{append([]api.Arc{a}, ten...), api.ErrLarge})
	}
	return all
}

// checkKept tests that a call has not changed its pipes.
func checkKept(t *testing.T, l, before []api.Arc) {
	t.Helper()
	if !slices.Equal(l, before) {
		t.Fatalf("the pipes %v have become %v", before, l)
	}
}

// across1 is Across of points that must be right.
func across1(t *testing.T, from, to int) int {
	t.Helper()
	n, e := wind.Across(from, to)
	if e != api.OK {
		t.Fatalf("Across(%d, %d): %d", from, to, e)
	}
	return n
}
