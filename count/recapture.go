package count

import "wigeon/api"

// recapture is birds of which some are marked, and a later catch of which some
// are marked again.
type recapture struct {
	birds, marked, caught, again int
}

// check returns the first error of a recapture whose chance is asked for.
func (r recapture) check() api.Errno {
	if !areNumbers(r.birds, r.marked, r.caught, r.again) {
		return api.ErrArg
	}
	if r.marked > r.birds || r.caught > r.birds {
		return api.ErrRule
	}
	return api.OK
}

// ways needs no test of its own of what fits: where something does not, one of
// the two has more birds to be chosen than there are.
func (r recapture) ways() int {
	return binomial(r.marked, r.again) * binomial(r.birds-r.marked, r.caught-r.again)
}

// choices returns how many choices of caught birds there are.
func (r recapture) choices() int {
	return binomial(r.birds, r.caught)
}

func (r recapture) chance() api.Rat {
	return fraction(r.ways(), r.choices())
}

// compare compares the chances of two recaptures.
func (r recapture) compare(other recapture) int {
	return compareFractions(r.chance(), other.chance())
}

// atMost returns the chance of this many marked birds, or fewer, in the catch.
func (r recapture) atMost() api.Rat {
	return fraction(sum(r.upToAgain(), recapture.ways), r.choices())
}

// atLeast returns the chance of this many marked birds, or more, in the catch.
func (r recapture) atLeast() api.Rat {
	fewer := r
	fewer.again--
	p := fewer.atMost()
	return api.Rat{Num: p.Den - p.Num, Den: p.Den}
}

// upToAgain returns the recaptures that have 0 marked birds in the catch, and so
// on up to those of r.
func (r recapture) upToAgain() []recapture {
	var l []recapture
	for again := range r.again + 1 {
		l = append(l, recapture{r.birds, r.marked, r.caught, again})
	}
	return l
}

// fits reports whether so many marked birds can be in the catch.
func (r recapture) fits() bool {
	return r.again <= r.marked && r.again <= r.caught
}

// withBirds returns the recaptures that differ from one that fits in the number
// of birds: from those that were seen up to the limit.
func (r recapture) withBirds() []recapture {
	var l []recapture
	for birds := r.marked + r.caught - r.again; birds <= api.MaxBirds; birds++ {
		l = append(l, recapture{birds, r.marked, r.caught, r.again})
	}
	return l
}
