package wind

import (
	"cmp"
	"slices"

	"wigeon/api"
)

// ValidatePipes returns api.OK if a list is one of pipes.
func ValidatePipes(l []api.Arc) api.Errno {
	if len(l) > api.MaxPipes {
		return api.ErrLarge
	}
	for _, a := range l {
		if e := ValidateArc(a); e != api.OK {
			return e
		}
	}
	return api.OK
}

// Workable returns the numbers of the pipes that can be worked at a wind.
func Workable(l []api.Arc, wind int) ([]int, api.Errno) {
	if e := ValidatePipes(l); e != api.OK {
		return nil, e
	}
	if !isPoint(wind) {
		return nil, api.ErrArg
	}
	return list(workable(l, wind).has), api.OK
}

// Lee returns the set of the points at which no pipe can be worked.
func Lee(l []api.Arc) (int, api.Errno) {
	if e := ValidatePipes(l); e != api.OK {
		return 0, e
	}
	return int(everyPoint &^ covered(l, everyPipe(l))), api.OK
}

// Covers reports whether some of the chosen pipes can be worked at every point.
func Covers(l []api.Arc, chosen []int) (bool, api.Errno) {
	if e := ValidatePipes(l); e != api.OK {
		return false, e
	}
	if !isSet(chosen, len(l)) {
		return false, api.ErrArg
	}
	return covered(l, gather(chosen)) == everyPoint, api.OK
}

// Fewest returns the smallest number of pipes that cover all points, and
// whether there are some: of the sets with so few the first one.
func Fewest(l []api.Arc) ([]int, bool, api.Errno) {
	if e := ValidatePipes(l); e != api.OK {
		return nil, false, e
	}
	fewest := everyPipe(l)
	if covered(l, fewest) != everyPoint {
		return nil, false, api.OK
	}
	for chosen := range everyPipe(l) {
		if covered(l, chosen) == everyPoint && compareFew(chosen, fewest) < 0 {
			fewest = chosen
		}
	}
	return list(fewest.has), true, api.OK
}

func everyPipe(l []api.Arc) numbers {
	return 1<<len(l) - 1
}

// workable returns the set of the pipes that can be worked at a wind.
func workable(l []api.Arc, wind int) numbers {
	var pipes numbers
	for i, a := range l {
		if pointsOf(a).has(wind) {
			pipes |= 1 << i
		}
	}
	return pipes
}

// covered returns the set of the points of the chosen pipes.
func covered(l []api.Arc, chosen numbers) numbers {
	var points numbers
	for i, a := range l {
		if chosen.has(i) {
			points |= pointsOf(a)
		}
	}
	return points
}

// compareFew puts smaller sets first, and equally large ones in ascending order.
func compareFew(a, b numbers) int {
	return cmp.Or(cmp.Compare(a.count(), b.count()), slices.Compare(list(a.has), list(b.has)))
}
