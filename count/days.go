package count

import "wigeon/api"

// ValidateDays returns api.OK if a list of catches is days.
func ValidateDays(l []api.Catch) api.Errno {
	if len(l) > api.MaxDays {
		return api.ErrLarge
	}
	for _, c := range l {
		if !areNumbers(c.Marked, c.Caught, c.Again) {
			return api.ErrArg
		}
		if c.Again > c.Marked || c.Again > c.Caught {
			return api.ErrRule
		}
	}
	return api.OK
}

// Schnabel returns Schnabel's estimate of the number of birds.
func Schnabel(l []api.Catch) (api.Rat, api.Errno) {
	if e := ValidateDays(l); e != api.OK {
		return api.Rat{}, e
	}
	again := sum(l, func(c api.Catch) int { return c.Again })
	if again == 0 {
		return api.Rat{}, api.ErrZero
	}
	return fraction(sum(l, func(c api.Catch) int { return c.Marked * c.Caught }), again), api.OK
}
