package purse

import (
	"slices"

	"wigeon/api"
)

// maxDen is the greatest denominator of pays and balances, and maxNum the
// greatest absolute value of what a player gets.
const (
	maxDen = 1000
	maxNum = 10000000
)

// CheckCore returns api.OK if a pay is in the core of a purse.
func CheckCore(v []int, p api.Pay) api.Errno {
	if e := checkPay(v, p); e != api.OK {
		return e
	}
	if !areOfCore(excesses(v, p)) {
		return api.ErrProof
	}
	return api.OK
}

// Core returns a pay that is in the core of a purse, and whether there is one.
func Core(v []int) (p api.Pay, found bool, e api.Errno) {
	if e := Validate(v); e != api.OK {
		return api.Pay{}, false, e
	}
	// The panic that stops the search has the pay that was found.
	defer func() {
		p, found = recover().(api.Pay)
	}()
	search(v, func(s *stand) {
		if areOfCore(s.excesses) {
			panic(s.pay(v))
		}
	})
	return api.Pay{}, false, api.OK
}

// Excess returns the group that lacks most at a pay, and how much it lacks.
func Excess(v []int, p api.Pay) (int, int, api.Errno) {
	if e := checkPay(v, p); e != api.OK {
		return 0, 0, e
	}
	if players(v) == 1 {
		return 0, 0, api.ErrNone
	}
	l := excesses(v, p)
	group := 1
	for g := 2; g < whole(v); g++ {
		if l[g] > l[group] {
			group = g
		}
	}
	return group, l[group], api.OK
}

// checkPay returns the first error of a purse and of a pay for it.
func checkPay(v []int, p api.Pay) api.Errno {
	if e := Validate(v); e != api.OK {
		return e
	}
	if p.Den < 1 || p.Den > maxDen || len(p.Num) != players(v) || !areUpTo(p.Num, maxNum) {
		return api.ErrArg
	}
	return api.OK
}

// areOfCore reports whether the excesses of all groups are those of a pay in the
// core.
func areOfCore(l []int) bool {
	return l[whole(l)] == 0 && slices.Max(l) <= 0
}
