package whistle

import (
	"cmp"
	"slices"

	"wigeon/api"
)

// Kraft returns the sum of 1 / 2^length of the signals of a code.
func Kraft(code []string) (api.Rat, api.Errno) {
	if e := Validate(code); e != api.OK {
		return api.Rat{}, e
	}
	var lengths []int
	for _, signal := range code {
		lengths = append(lengths, len(signal))
	}
	return fillOf(lengths), api.OK
}

// Fill returns the sum of 1 / 2^length of lengths.
func Fill(lengths []int) (api.Rat, api.Errno) {
	if !areLengths(lengths) {
		return api.Rat{}, api.ErrArg
	}
	return fillOf(lengths), api.OK
}

// FromLengths returns a code whose signals have given lengths, and of which none
// begins with another one.
func FromLengths(lengths []int) ([]string, api.Errno) {
	if !areLengths(lengths) {
		return nil, api.ErrArg
	}
	if fill := fillOf(lengths); fill.Num > fill.Den {
		return nil, api.ErrRule
	}
	code := make([]string, len(lengths))
	number, length := 0, 0
	for _, i := range shortestFirst(lengths) {
		number <<= lengths[i] - length
		length = lengths[i]
		code[i] = signalOf(number, length)
		number++
	}
	return code, api.OK
}

// shortestFirst returns the indexes of lengths, the smallest length first.
func shortestFirst(lengths []int) []int {
	var order []int
	for i := range lengths {
		order = append(order, i)
	}
	slices.SortStableFunc(order, func(i, j int) int {
		return cmp.Compare(lengths[i], lengths[j])
	})
	return order
}

// signalOf returns the signal of a length that a binary number is.
func signalOf(number, length int) string {
	signal := make([]byte, length)
	for i := range signal {
		signal[i] = short
		if number>>(length-1-i)&1 == 1 {
			signal[i] = long
		}
	}
	return string(signal)
}

// fillOf returns the sum of 1 / 2^length, each length from 1 to api.MaxSignal.
func fillOf(lengths []int) api.Rat {
	fill := api.Rat{Den: 1 << api.MaxSignal}
	for _, length := range lengths {
		fill.Num += fill.Den >> length
	}
	for fill.Den > 1 && fill.Num%2 == 0 {
		fill.Num, fill.Den = fill.Num/2, fill.Den/2
	}
	return fill
}

func areLengths(lengths []int) bool {
	if len(lengths) == 0 || len(lengths) > api.MaxSignals {
		return false
	}
	for _, length := range lengths {
		if !isLength(length) {
			return false
		}
	}
	return true
}
