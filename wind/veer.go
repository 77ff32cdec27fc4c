package wind

import "wigeon/api"

// Across returns how far the wind veers by the shorter way from a point to
// another one.
func Across(from, to int) (int, api.Errno) {
	if !isPoint(from) || !isPoint(to) {
		return 0, api.ErrArg
	}
	return across(from, to), api.OK
}

// Veer returns how far the wind veers from the first of the winds to the last
// one, through all of them.
func Veer(winds []int) (int, api.Errno) {
	if len(winds) > api.MaxVeer {
		return 0, api.ErrLarge
	}
	for _, w := range winds {
		if !isPoint(w) {
			return 0, api.ErrArg
		}
	}
	total := 0
	for i := 1; i < len(winds); i++ {
		total += across(winds[i-1], winds[i])
	}
	return total, api.OK
}

func across(from, to int) int {
	by := to - from
	if by > api.Winds/2 {
		return by - api.Winds
	}
	if by <= -api.Winds/2 {
		return by + api.Winds
	}
	return by
}
