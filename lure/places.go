package lure

import "wigeon/api"

// places is a set of places. It has the bit p for the place p.
type places uint32

// isSet reports whether a list is a set of places of a game with count places.
func isSet(l []int, count int) bool {
	next := 0
	for _, p := range l {
		if p < next || p >= count {
			return false
		}
		next = p + 1
	}
	return true
}

// gather returns the set of the places of a list.
func gather(l []int) places {
	var s places
	for _, p := range l {
		s |= 1 << p
	}
	return s
}

// every returns the set of all places of a game.
func every(g api.Game) places {
	return 1<<len(g.Owner) - 1
}

// list returns the places of a set in ascending order.
func (s places) list() []int {
	var l []int
	for p := range api.MaxPlaces {
		if s.has(p) {
			l = append(l, p)
		}
	}
	return l
}

func (s places) has(p int) bool {
	return s>>p&1 == 1
}

// liesIn reports whether all places of the set are in another one.
func (s places) liesIn(other places) bool {
	return s&^other == 0
}

func (s places) meets(other places) bool {
	return s&other != 0
}
