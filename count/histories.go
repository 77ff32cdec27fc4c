package count

import (
	"strings"

	"wigeon/api"
)

// ValidateHistories returns api.OK if a list of texts is histories.
func ValidateHistories(l []string) api.Errno {
	if len(l) > api.MaxBirds {
		return api.ErrLarge
	}
	for _, history := range l {
		if len(history) > api.MaxDays {
			return api.ErrLarge
		}
		if len(history) != len(l[0]) || strings.Trim(history, "01") != "" {
			return api.ErrArg
		}
		if !strings.Contains(history, "1") {
			return api.ErrRule
		}
	}
	return api.OK
}

// Catches returns the catch of each day.
func Catches(l []string) ([]api.Catch, api.Errno) {
	if e := ValidateHistories(l); e != api.OK {
		return nil, e
	}
	catches := make([]api.Catch, daysOf(l))
	for day := range catches {
		catches[day] = api.Catch{
			Marked: birdsOn(day, l, bird.isMarked),
			Caught: birdsOn(day, l, bird.isCaught),
			Again:  birdsOn(day, l, bird.isCaughtAgain),
		}
	}
	return catches, api.OK
}

// Alive returns, for each day, how many birds are known to be alive.
func Alive(l []string) ([]int, api.Errno) {
	return daily(l, bird.isAlive)
}

// Lives returns, for each bird, the number of days on which it is known to be
// alive.
func Lives(l []string) ([]int, api.Errno) {
	if e := ValidateHistories(l); e != api.OK {
		return nil, e
	}
	lives := make([]int, len(l))
	for i, history := range l {
		b := bird(history)
		lives[i] = b.last() - b.first() + 1
	}
	return lives, api.OK
}

// First returns, for each day, how many birds were caught for the first time.
func First(l []string) ([]int, api.Errno) {
	return daily(l, bird.isNew)
}

// Share returns which part of the birds that were caught on a day was caught
// later on.
func Share(l []string, day int) (api.Rat, api.Errno) {
	if e := ValidateHistories(l); e != api.OK {
		return api.Rat{}, e
	}
	if day < 0 || day >= daysOf(l) {
		return api.Rat{}, api.ErrArg
	}
	caught := birdsOn(day, l, bird.isCaught)
	if caught == 0 {
		return api.Rat{}, api.ErrZero
	}
	return fraction(birdsOn(day, l, bird.isCaughtTillLater), caught), api.OK
}

// daysOf returns the number of days of histories.
func daysOf(l []string) int {
	if len(l) == 0 {
		return 0
	}
	return len(l[0])
}

// daily returns, for each day, how many birds are what is asks for.
func daily(l []string, is func(b bird, day int) bool) ([]int, api.Errno) {
	if e := ValidateHistories(l); e != api.OK {
		return nil, e
	}
	numbers := make([]int, daysOf(l))
	for day := range numbers {
		numbers[day] = birdsOn(day, l, is)
	}
	return numbers, api.OK
}

// birdsOn returns how many birds are, on a day, what is asks for.
func birdsOn(day int, l []string, is func(b bird, day int) bool) int {
	return sum(l, func(history string) int {
		if is(bird(history), day) {
			return 1
		}
		return 0
	})
}
