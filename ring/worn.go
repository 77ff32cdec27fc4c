package ring

import (
	"strings"

	"wigeon/api"
)

// alphabet is how many letters there are from A to Z.
const alphabet = 26

// IsWorn reports whether a text is a worn ring.
func IsWorn(worn string) bool {
	return hasForm(worn, true)
}

// Fits reports whether a ring fits a worn one.
func Fits(worn, ring string) (bool, api.Errno) {
	if !IsWorn(worn) {
		return false, api.ErrSyntax
	}
	if e := Valid(ring); e != api.OK {
		return false, e
	}
	return fits(worn, ring), api.OK
}

// Count returns how many rings fit a worn one.
func Count(worn string) (int, api.Errno) {
	if !IsWorn(worn) {
		return 0, api.ErrSyntax
	}
	series, tail := cut(worn)
	wornDigits := countWorn(tail)
	if wornDigits == 0 && sum(digitsOf(tail)) != 0 {
		return 0, api.OK
	}
	n := power(alphabet, countWorn(series))
	// However the other worn digits are filled in, exactly one digit in the
	// place of the last one makes the sum 0.
	return n * power(10, max(wornDigits-1, 0)), api.OK
}

// First returns the first ring in ascending order that fits a worn one.
func First(worn string) (string, bool, api.Errno) {
	if !IsWorn(worn) {
		return "", false, api.ErrSyntax
	}
	series, tail := cut(worn)
	lowest := strings.ReplaceAll(series, "?", "A") + strings.ReplaceAll(tail, "?", "0")
	if Valid(lowest) == api.OK {
		return lowest, true, api.OK
	}
	// The last worn digit alone can make the sum 0, so all before it stay lowest.
	if last := strings.LastIndex(worn, "?"); last >= len(series) {
		for _, r := range allDigits {
			ring := replace(lowest, last, byte(r))
			if Valid(ring) == api.OK {
				return ring, true, api.OK
			}
		}
	}
	return "", false, api.OK
}

func fits(worn, ring string) bool {
	if len(worn) != len(ring) {
		return false
	}
	for i, r := range worn {
		if r != '?' && r != rune(ring[i]) {
			return false
		}
	}
	return true
}

func countWorn(text string) int {
	return strings.Count(text, "?")
}

func power(base, times int) int {
	n := 1
	for range times {
		n *= base
	}
	return n
}
