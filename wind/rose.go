package wind

import "wigeon/api"

// Sum returns how often the winds of an arc were noted.
func Sum(rose [32]int, a api.Arc) (int, api.Errno) {
	if e := ValidateArc(a); e != api.OK {
		return 0, e
	}
	if !isRose(rose) {
		return 0, api.ErrArg
	}
	return sum(rose, pointsOf(a).has), api.OK
}

// Best returns the arc of a width whose winds were noted most often, and how
// often.
func Best(rose [32]int, width int) (api.Arc, int, api.Errno) {
	if !isRose(rose) || !isWidth(width) {
		return api.Arc{}, 0, api.ErrArg
	}
	best, most := api.Arc{}, -1
	for from := range api.Winds {
		a := api.Arc{From: from, Width: width}
		if n := sum(rose, pointsOf(a).has); n > most {
			best, most = a, n
		}
	}
	return best, most, api.OK
}

func isRose(rose [32]int) bool {
	for _, n := range rose {
		if n < 0 || n > api.MaxRose {
			return false
		}
	}
	return true
}

// sum adds the numbers of a rose at the points that belong to a set.
func sum(rose [32]int, belongs func(point int) bool) int {
	total := 0
	for p, n := range rose {
		if belongs(p) {
			total += n
		}
	}
	return total
}
