package screen_test

import (
	"math"
	"math/rand/v2"
	"slices"

	"wigeon/api"
)

// The functions of this file find what the chapter's words ask for in the
// plainest way, to compare the package with it.

func pt(x, y int) api.Point { return api.Point{X: x, Y: y} }

func sc(ax, ay, bx, by int) api.Screen { return api.Screen{A: pt(ax, ay), B: pt(bx, by)} }

func cross(a, b api.Point) int { return a.X*b.Y - a.Y*b.X }

func minus(a, b api.Point) api.Point { return pt(a.X-b.X, a.Y-b.Y) }

// isOn reports whether p is on the line from a to b.
func isOn(a, b, p api.Point) bool {
	to, from := minus(a, p), minus(b, p)
	return cross(to, from) == 0 && to.X*from.X+to.Y*from.Y <= 0
}

// isPart reports whether num/den is from 0 to 1.
func isPart(num, den int) bool {
	if den < 0 {
		num, den = -num, -den
	}
	return 0 <= num && num <= den
}

// wantTouch finds the place where the lines cross, as a part of each.
func wantTouch(a, b, c, d api.Point) bool {
	r, s, q := minus(b, a), minus(d, c), minus(c, a)
	if den := cross(r, s); den != 0 {
		return isPart(cross(q, s), den) && isPart(cross(q, r), den)
	}
	return isOn(a, b, c) || isOn(a, b, d) || isOn(c, d, a) || isOn(c, d, b)
}

func wantCutters(l []api.Screen, a, b api.Point) []int {
	var cutters []int
	for i, s := range l {
		if wantTouch(s.A, s.B, a, b) {
			cutters = append(cutters, i)
		}
	}
	return cutters
}

func wantSees(l []api.Screen, a, b api.Point) bool {
	return len(wantCutters(l, a, b)) == 0
}

func wantSeers(l []api.Screen, eyes []api.Point, p api.Point) []int {
	var seers []int
	for i, eye := range eyes {
		if wantSees(l, eye, p) {
			seers = append(seers, i)
		}
	}
	return seers
}

// wantGroups gives each point a group of its own and brings together those of
// points that see each other.
func wantGroups(l []api.Screen, points []api.Point) int {
	group := make([]int, len(points))
	for i := range group {
		group[i] = i
	}
	for i, a := range points {
		for k, b := range points {
			if !wantSees(l, a, b) {
				continue
			}
			old, new := group[i], group[k]
			for m := range group {
				if group[m] == old {
					group[m] = new
				}
			}
		}
	}
	slices.Sort(group)
	return len(slices.Compact(group))
}

// boxPoints returns the points of a box in ascending order.
func boxPoints(b api.Box) []api.Point {
	var points []api.Point
	for x := b.Lo.X; x <= b.Hi.X; x++ {
		for y := b.Lo.Y; y <= b.Hi.Y; y++ {
			points = append(points, pt(x, y))
		}
	}
	return points
}

func areNeighbors(a, b api.Point) bool {
	d := minus(a, b)
	return d.X*d.X+d.Y*d.Y == 1
}

// wantSteps returns the points of a box to which hidden ways lead, with their
// smallest numbers of steps: it goes over all points until nothing changes.
func wantSteps(l []api.Screen, eyes []api.Point, b api.Box, from api.Point) map[api.Point]int {
	dark := slices.DeleteFunc(boxPoints(b), func(p api.Point) bool { return len(wantSeers(l, eyes, p)) > 0 })
	steps := map[api.Point]int{}
	if slices.Contains(dark, from) {
		steps[from] = 0
	}
	for changed := true; changed; {
		changed = false
		for _, p := range dark {
			for _, q := range dark {
				n, ok := steps[p]
				if !ok || !areNeighbors(p, q) || !wantSees(l, p, q) {
					continue
				}
				if m, ok := steps[q]; !ok || m > n+1 {
					steps[q] = n + 1
					changed = true
				}
			}
		}
	}
	return steps
}

// A scene is what the functions are asked about.
type scene struct {
	l      []api.Screen
	eyes   []api.Point
	points []api.Point
	b      api.Box
}

// scenes returns scenes that are always the same: their random source has a
// fixed start.
func scenes(n int) []scene {
	r := rand.New(rand.NewPCG(2, 11))
	all := make([]scene, n)
	for i := range all {
		size := 1 + r.IntN(9)
		at := func() api.Point { return pt(r.IntN(2*size+1)-size, r.IntN(2*size+1)-size) }
		s := scene{}
		for range r.IntN(api.MaxScreens + 1) {
			if a, b := at(), at(); a != b {
				s.l = append(s.l, api.Screen{A: a, B: b})
			}
		}
		for range r.IntN(api.MaxEyes + 1) {
			s.eyes = append(s.eyes, at())
		}
		for range r.IntN(api.MaxPoints + 1) {
			s.points = append(s.points, at())
		}
		a, b := at(), at()
		s.b = api.Box{Lo: pt(min(a.X, b.X), min(a.Y, b.Y)), Hi: pt(max(a.X, b.X), max(a.Y, b.Y))}
		all[i] = s
	}
	return all
}

// notPoints are points with a coordinate that is out of range.
var notPoints = []api.Point{
	pt(101, 0), pt(-101, 0), pt(0, 101), pt(0, -101), pt(101, 101),
	pt(math.MaxInt, 0), pt(math.MinInt, 0), pt(0, math.MaxInt), pt(0, math.MinInt),
}

// manyScreens returns the most screens there may be.
func manyScreens() []api.Screen {
	var l []api.Screen
	for i := range api.MaxScreens {
		l = append(l, sc(-100, 100-i, 100, 100-i))
	}
	return l
}

// screenErrors are lists that are not valid, and their errors.
func screenErrors() map[string]struct {
	l    []api.Screen
	want api.Errno
} {
	type row = struct {
		l    []api.Screen
		want api.Errno
	}
	rows := map[string]row{
		"13 screens":        {append(manyScreens(), sc(0, 0, 0, 1)), api.ErrLarge},
		"13 wrong screens":  {make([]api.Screen, 13), api.ErrLarge},
		"a wrong one at 13": {append(manyScreens(), api.Screen{}), api.ErrLarge},
		"equal ends":        {[]api.Screen{sc(7, 7, 7, 7)}, api.ErrArg},
		"the last wrong":    {append(manyScreens()[1:], sc(7, 7, 7, 7)), api.ErrArg},
	}
	for i, p := range notPoints {
		rows["no point A "+string(rune('a'+i))] = row{[]api.Screen{{A: p}}, api.ErrArg}
		rows["no point B "+string(rune('a'+i))] = row{[]api.Screen{{B: p}}, api.ErrArg}
	}
	return rows
}
