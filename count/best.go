package count

import (
	"slices"

	"wigeon/api"
)

// Best returns the number of birds that makes a recapture most likely, and
// whether there is one.
func Best(marked, caught, again int) (int, bool, api.Errno) {
	if !areNumbers(marked, caught, again) {
		return 0, false, api.ErrArg
	}
	r := recapture{marked: marked, caught: caught, again: again}
	if !r.fits() {
		return 0, false, api.OK
	}
	l := r.withBirds()
	if len(l) == 0 {
		return 0, false, api.OK
	}
	// Of several greatest ones MaxFunc returns the first.
	return slices.MaxFunc(l, recapture.compare).birds, true, api.OK
}

// Odds returns by how much a number of birds is more likely than one bird less.
func Odds(birds, marked, caught, again int) (api.Rat, api.Errno) {
	if !areNumbers(birds, marked, caught, again) {
		return api.Rat{}, api.ErrArg
	}
	less := recapture{birds - 1, marked, caught, again}
	if marked > less.birds || caught > less.birds {
		return api.Rat{}, api.ErrRule
	}
	if less.ways() == 0 {
		return api.Rat{}, api.ErrZero
	}
	// One chance divided by the other leaves only these of their factors.
	return fraction((birds-marked)*(birds-caught), birds*(birds-marked-caught+again)), api.OK
}

// Chapman returns Chapman's estimate of the number of birds.
func Chapman(marked, caught, again int) (api.Rat, api.Errno) {
	if !areNumbers(marked, caught, again) {
		return api.Rat{}, api.ErrArg
	}
	if r := (recapture{marked: marked, caught: caught, again: again}); !r.fits() {
		return api.Rat{}, api.ErrRule
	}
	return fraction((marked+1)*(caught+1)-(again+1), again+1), api.OK
}

// Possible returns the numbers of birds with which neither so few marked birds
// in the catch nor so many have a chance of at most a level.
func Possible(marked, caught, again int, level api.Rat) ([]int, api.Errno) {
	if !areNumbers(marked, caught, again) || !isLevel(level) {
		return nil, api.ErrArg
	}
	given := recapture{marked: marked, caught: caught, again: again}
	if !given.fits() {
		return nil, api.ErrRule
	}
	var numbers []int
	for _, r := range given.withBirds() {
		if compareFractions(r.atMost(), level) > 0 && compareFractions(r.atLeast(), level) > 0 {
			numbers = append(numbers, r.birds)
		}
	}
	return numbers, api.OK
}
