package screen

import "wigeon/api"

// Touch reports whether the straight lines from a to b and from c to d have a
// point in common.
func Touch(a, b, c, d api.Point) (bool, api.Errno) {
	if !arePoints(a, b, c, d) {
		return false, api.ErrArg
	}
	return touch(a, b, c, d), api.OK
}

// Sees reports whether no screen cuts the sight from a to b.
func Sees(l []api.Screen, a, b api.Point) (bool, api.Errno) {
	if e := checkSight(l, a, b); e != api.OK {
		return false, e
	}
	return sees(l, a, b), api.OK
}

// Cutters returns the numbers of the screens that cut the sight from a to b.
func Cutters(l []api.Screen, a, b api.Point) ([]int, api.Errno) {
	if e := checkSight(l, a, b); e != api.OK {
		return nil, e
	}
	var cutters []int
	for i, s := range l {
		if cuts(s, a, b) {
			cutters = append(cutters, i)
		}
	}
	return cutters, api.OK
}

// Seers returns the numbers of the watchers who see a point.
func Seers(l []api.Screen, eyes []api.Point, p api.Point) ([]int, api.Errno) {
	if e := checkEyes(l, eyes, p); e != api.OK {
		return nil, e
	}
	var seers []int
	for i, eye := range eyes {
		if sees(l, eye, p) {
			seers = append(seers, i)
		}
	}
	return seers, api.OK
}

// Sights returns for each point a number with the bit k if one sees the point
// number k from it.
func Sights(l []api.Screen, points []api.Point) ([]int, api.Errno) {
	if e := checkPoints(l, points, api.MaxPoints); e != api.OK {
		return nil, e
	}
	sights := make([]int, len(points))
	for i, a := range points {
		for k, b := range points {
			if sees(l, a, b) {
				sights[i] |= 1 << k
			}
		}
	}
	return sights, api.OK
}

// Groups returns the number of groups of points that see each other, directly
// or through others.
func Groups(l []api.Screen, points []api.Point) (int, api.Errno) {
	sights, e := Sights(l, points)
	if e != api.OK {
		return 0, e
	}
	groups, grouped := 0, 0
	for i := range points {
		if grouped>>i&1 == 0 {
			grouped |= groupOf(sights, i)
			groups++
		}
	}
	return groups, api.OK
}

// groupOf returns the bits of the points in the group of the point number i,
// which belongs to it even where it does not see itself.
func groupOf(sights []int, i int) int {
	group := 1 << i
	for {
		wider := group
		for k, seen := range sights {
			if group>>k&1 == 1 {
				wider |= seen
			}
		}
		if wider == group {
			return group
		}
		group = wider
	}
}

func sees(l []api.Screen, a, b api.Point) bool {
	for _, s := range l {
		if cuts(s, a, b) {
			return false
		}
	}
	return true
}

func cuts(s api.Screen, a, b api.Point) bool {
	return touch(s.A, s.B, a, b)
}

// touch is right for lines of one point, too, and for lines along each other:
// then all products are 0, and the spans decide.
func touch(a, b, c, d api.Point) bool {
	return meet(a.X, b.X, c.X, d.X) && meet(a.Y, b.Y, c.Y, d.Y) &&
		side(a, b, c)*side(a, b, d) <= 0 && side(c, d, a)*side(c, d, b) <= 0
}

// meet reports whether the spans between a and b and between c and d have a
// number in common.
func meet(a, b, c, d int) bool {
	return max(min(a, b), min(c, d)) <= min(max(a, b), max(c, d))
}

// side is above 0 if p is to the left of the line from a to b, below 0 if to
// the right, and 0 if on it.
func side(a, b, p api.Point) int {
	return (b.X-a.X)*(p.Y-a.Y) - (b.Y-a.Y)*(p.X-a.X)
}
