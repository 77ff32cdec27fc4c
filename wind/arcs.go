// Package wind has the 32 points of the compass, arcs of them, the pipes that
// can be worked, and roses of winds.
package wind

import "wigeon/api"

// ValidateArc returns api.OK if an arc is one of the compass.
func ValidateArc(a api.Arc) api.Errno {
	if !isPoint(a.From) || !isWidth(a.Width) {
		return api.ErrArg
	}
	return api.OK
}

// Points returns the set of the points of an arc.
func Points(a api.Arc) (int, api.Errno) {
	if e := ValidateArc(a); e != api.OK {
		return 0, e
	}
	return int(pointsOf(a)), api.OK
}

// Arcs returns the fewest arcs that have the points of a set and do not touch
// each other.
func Arcs(set int) ([]api.Arc, api.Errno) {
	s, ok := setOf(set)
	if !ok {
		return nil, api.ErrArg
	}
	// All points have no first one, at which an arc begins.
	if s == everyPoint {
		return []api.Arc{{From: 0, Width: api.Winds}}, api.OK
	}
	var arcs []api.Arc
	starts := s &^ s.turn(1)
	for _, from := range list(starts.has) {
		arcs = append(arcs, api.Arc{From: from, Width: runFrom(s, from)})
	}
	return arcs, api.OK
}

// Turn adds a number to all points of a set.
func Turn(set, by int) (int, api.Errno) {
	s, ok := setOf(set)
	if !ok {
		return 0, api.ErrArg
	}
	return int(s.turn(by)), api.OK
}

// Mirror replaces each point of a set by the one that is as far from north on
// the other side.
func Mirror(set int) (int, api.Errno) {
	s, ok := setOf(set)
	if !ok {
		return 0, api.ErrArg
	}
	return int(s.mirror()), api.OK
}

func isPoint(n int) bool {
	return n >= 0 && n < api.Winds
}

func isWidth(n int) bool {
	return n >= 1 && n <= api.Winds
}

func pointsOf(a api.Arc) numbers {
	return (everyPoint >> (api.Winds - a.Width)).turn(a.From)
}

// runFrom returns how many points of a set that lacks some point follow each
// other from a point on.
func runFrom(s numbers, from int) int {
	width := 0
	for s.has((from + width) % api.Winds) {
		width++
	}
	return width
}
