package screen

import (
	"cmp"
	"slices"

	"wigeon/api"
)

// Hidden reports whether no watcher sees a point.
func Hidden(l []api.Screen, eyes []api.Point, p api.Point) (bool, api.Errno) {
	if e := checkEyes(l, eyes, p); e != api.OK {
		return false, e
	}
	return isHidden(l, eyes, p), api.OK
}

// Dark returns the number of hidden points of a box.
func Dark(l []api.Screen, eyes []api.Point, b api.Box) (int, api.Errno) {
	if e := checkBox(l, eyes, b); e != api.OK {
		return 0, e
	}
	return len(darkPoints(l, eyes, b)), api.OK
}

// CheckWay returns the number of steps of a hidden way; or the first error,
// with the number of the point that has it.
func CheckWay(l []api.Screen, eyes []api.Point, b api.Box, way []api.Point) (int, api.Errno) {
	if e := checkBox(l, eyes, b); e != api.OK {
		return 0, e
	}
	if len(way) == 0 {
		return 0, api.ErrStep
	}
	dark := darkPoints(l, eyes, b)
	for i, p := range way {
		if e := checkPlace(b, dark, p); e != api.OK {
			return i, e
		}
		if i == 0 {
			continue
		}
		if e := checkStep(l, way[i-1], p); e != api.OK {
			return i, e
		}
	}
	return len(way) - 1, api.OK
}

// Reach returns the points to which hidden ways lead from a point.
func Reach(l []api.Screen, eyes []api.Point, b api.Box, from api.Point) ([]api.Point, api.Errno) {
	if e := checkEnds(l, eyes, b, from); e != api.OK {
		return nil, e
	}
	var reached []api.Point
	for p := range search(l, darkPoints(l, eyes, b), from) {
		reached = append(reached, p)
	}
	slices.SortFunc(reached, comparePoints)
	return reached, api.OK
}

// Steps returns the smallest number of steps of a hidden way, and whether there
// is one.
func Steps(l []api.Screen, eyes []api.Point, b api.Box, from, to api.Point) (int, bool, api.Errno) {
	way, found, e := Way(l, eyes, b, from, to)
	if !found {
		return 0, false, e
	}
	return len(way) - 1, true, api.OK
}

// Way returns a hidden way with the smallest number of steps, and whether there
// is one.
func Way(l []api.Screen, eyes []api.Point, b api.Box, from, to api.Point) ([]api.Point, bool, api.Errno) {
	if e := checkEnds(l, eyes, b, from, to); e != api.OK {
		return nil, false, e
	}
	before := search(l, darkPoints(l, eyes, b), from)
	if _, found := before[to]; !found {
		return nil, false, api.OK
	}
	way := []api.Point{to}
	for p := to; p != from; {
		p = before[p]
		way = append(way, p)
	}
	slices.Reverse(way)
	return way, true, api.OK
}

// search returns the points to which hidden ways lead from a point, each with
// the point before it on a shortest way; the first is before itself.
func search(l []api.Screen, dark map[api.Point]bool, from api.Point) map[api.Point]api.Point {
	before := map[api.Point]api.Point{}
	if !dark[from] {
		return before
	}
	before[from] = from
	queue := []api.Point{from}
	for len(queue) > 0 {
		p := queue[0]
		queue = queue[1:]
	next:
		for _, q := range neighbors(p) {
			if _, found := before[q]; found || !dark[q] {
				continue
			}
			for _, s := range l {
				if cuts(s, p, q) {
					continue next
				}
			}
			before[q] = p
			queue = append(queue, q)
		}
	}
	return before
}

// darkPoints returns the hidden points of a box.
func darkPoints(l []api.Screen, eyes []api.Point, b api.Box) map[api.Point]bool {
	dark := map[api.Point]bool{}
	for x := b.Lo.X; x <= b.Hi.X; x++ {
		for y := b.Lo.Y; y <= b.Hi.Y; y++ {
			p := api.Point{X: x, Y: y}
			if isHidden(l, eyes, p) {
				dark[p] = true
			}
		}
	}
	return dark
}

func checkPlace(b api.Box, dark map[api.Point]bool, p api.Point) api.Errno {
	if !inBox(b, p) {
		return api.ErrArg
	}
	if !dark[p] {
		return api.ErrSeen
	}
	return api.OK
}

func checkStep(l []api.Screen, from, to api.Point) api.Errno {
	next := neighbors(from)
	if !slices.Contains(next[:], to) {
		return api.ErrStep
	}
	if !sees(l, from, to) {
		return api.ErrCut
	}
	return api.OK
}

func isHidden(l []api.Screen, eyes []api.Point, p api.Point) bool {
	for _, eye := range eyes {
		if sees(l, eye, p) {
			return false
		}
	}
	return true
}

func neighbors(p api.Point) [4]api.Point {
	return [4]api.Point{{X: p.X + 1, Y: p.Y}, {X: p.X - 1, Y: p.Y}, {X: p.X, Y: p.Y + 1}, {X: p.X, Y: p.Y - 1}}
}

func comparePoints(a, b api.Point) int {
	return cmp.Or(cmp.Compare(a.X, b.X), cmp.Compare(a.Y, b.Y))
}
