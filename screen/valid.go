// Package screen finds who sees whom between screens, and ways on which nobody
// is seen.
package screen

import "wigeon/api"

// Validate returns api.OK if a list is one of screens.
func Validate(l []api.Screen) api.Errno {
	if len(l) > api.MaxScreens {
		return api.ErrLarge
	}
	for _, s := range l {
		if !arePoints(s.A, s.B) || s.A == s.B {
			return api.ErrArg
		}
	}
	return api.OK
}

// checkSight returns the first error of screens and of the ends of a sight.
func checkSight(l []api.Screen, a, b api.Point) api.Errno {
	if e := Validate(l); e != api.OK {
		return e
	}
	if !arePoints(a, b) {
		return api.ErrArg
	}
	return api.OK
}

// checkPoints returns the first error of screens and of a list of at most limit
// points.
func checkPoints(l []api.Screen, points []api.Point, limit int) api.Errno {
	if e := Validate(l); e != api.OK {
		return e
	}
	if len(points) > limit {
		return api.ErrLarge
	}
	if !arePoints(points...) {
		return api.ErrArg
	}
	return api.OK
}

// checkEyes returns the first error of screens, of watchers and of one point.
func checkEyes(l []api.Screen, eyes []api.Point, p api.Point) api.Errno {
	if e := checkPoints(l, eyes, api.MaxEyes); e != api.OK {
		return e
	}
	if !arePoints(p) {
		return api.ErrArg
	}
	return api.OK
}

// checkBox returns the first error of screens, of watchers and of a box.
func checkBox(l []api.Screen, eyes []api.Point, b api.Box) api.Errno {
	if e := checkPoints(l, eyes, api.MaxEyes); e != api.OK {
		return e
	}
	if !isBox(b) {
		return api.ErrArg
	}
	return api.OK
}

// checkEnds returns the first error of screens, of watchers, of a box and of
// the ends of a way in it.
func checkEnds(l []api.Screen, eyes []api.Point, b api.Box, ends ...api.Point) api.Errno {
	if e := checkBox(l, eyes, b); e != api.OK {
		return e
	}
	if !arePoints(ends...) {
		return api.ErrArg
	}
	for _, p := range ends {
		if !inBox(b, p) {
			return api.ErrNone
		}
	}
	return api.OK
}

func arePoints(points ...api.Point) bool {
	for _, p := range points {
		if !isWithin(p.X, api.MaxCoord) || !isWithin(p.Y, api.MaxCoord) {
			return false
		}
	}
	return true
}

func isWithin(n, limit int) bool {
	return -limit <= n && n <= limit
}

// isBox looks at the corners first: only then the sides cannot overflow.
func isBox(b api.Box) bool {
	return arePoints(b.Lo, b.Hi) && isSide(b.Lo.X, b.Hi.X) && isSide(b.Lo.Y, b.Hi.Y)
}

func isSide(lo, hi int) bool {
	return lo <= hi && hi-lo+1 <= api.MaxSide
}

func inBox(b api.Box, p api.Point) bool {
	return b.Lo.X <= p.X && p.X <= b.Hi.X && b.Lo.Y <= p.Y && p.Y <= b.Hi.Y
}
