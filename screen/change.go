package screen

import "wigeon/api"

// Move returns screens with a vector added to all ends.
func Move(l []api.Screen, by api.Point) ([]api.Screen, api.Errno) {
	if e := Validate(l); e != api.OK {
		return nil, e
	}
	if !isWithin(by.X, 2*api.MaxCoord) || !isWithin(by.Y, 2*api.MaxCoord) {
		return nil, api.ErrArg
	}
	return change(l, func(p api.Point) api.Point {
		return api.Point{X: p.X + by.X, Y: p.Y + by.Y}
	})
}

// Turn returns screens turned to the left by a quarter around 0 0.
func Turn(l []api.Screen) ([]api.Screen, api.Errno) {
	if e := Validate(l); e != api.OK {
		return nil, e
	}
	return change(l, func(p api.Point) api.Point {
		return api.Point{X: -p.Y, Y: p.X}
	})
}

// change returns screens with other ends, or the error that these have.
func change(l []api.Screen, place func(api.Point) api.Point) ([]api.Screen, api.Errno) {
	changed := make([]api.Screen, len(l))
	for i, s := range l {
		changed[i] = api.Screen{A: place(s.A), B: place(s.B)}
	}
	if e := Validate(changed); e != api.OK {
		return nil, e
	}
	return changed, api.OK
}
