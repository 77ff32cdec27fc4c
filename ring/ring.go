// Package ring is layer 1: ring numbers that check themselves, and blocks of
// rings. See shared/doc/01-ring.md.
package ring

import (
	"slices"
	"strconv"
	"strings"

	"wigeon/api"
)

const (
	maxLetters   = 2                // letters of a series
	numberDigits = 5                // digits of the number of a ring
	tailDigits   = numberDigits + 1 // the number and the check digit
	allDigits    = "0123456789"
)

// Valid returns api.OK if a text is a ring.
func Valid(ring string) api.Errno {
	if !hasForm(ring, false) {
		return api.ErrSyntax
	}
	_, tail := cut(ring)
	if sum(digitsOf(tail)) != 0 {
		return api.ErrCheck
	}
	return api.OK
}

// Make returns the ring of a series with a number.
func Make(series string, number int) (string, api.Errno) {
	if !isSeries(series) {
		return "", api.ErrSyntax
	}
	if number < 0 || number > api.MaxNumber {
		return "", api.ErrArg
	}
	text := strconv.Itoa(number)
	text = strings.Repeat("0", numberDigits-len(text)) + text
	check := checkDigit(digitsOf(text))
	return series + text + strconv.Itoa(check), api.OK
}

// Split returns the series and the number of a ring.
func Split(ring string) (string, int, api.Errno) {
	if e := Valid(ring); e != api.OK {
		return "", 0, e
	}
	series, tail := cut(ring)
	number := 0
	for _, d := range digitsOf(tail[:numberDigits]) {
		number = 10*number + d
	}
	return series, number, api.OK
}

// Next returns the ring with the next number of the series.
func Next(ring string) (string, api.Errno) {
	series, number, e := Split(ring)
	if e != api.OK {
		return "", e
	}
	if number == api.MaxNumber {
		return "", api.ErrLarge
	}
	return Make(series, number+1)
}

// Near returns the rings that come from a text by changing one digit or by
// exchanging two digits that are neighbors.
func Near(text string) ([]string, api.Errno) {
	if !hasForm(text, false) {
		return nil, api.ErrSyntax
	}
	var near []string
	for _, slip := range append(changes(text), exchanges(text)...) {
		if Valid(slip) == api.OK {
			near = append(near, slip)
		}
	}
	slices.Sort(near)
	return near, api.OK
}

// hasForm reports whether a text has the form of a ring, or of a worn one.
func hasForm(text string, mayBeWorn bool) bool {
	letters := len(text) - tailDigits
	if letters < 1 || letters > maxLetters {
		return false
	}
	for i, r := range text {
		isRight := r >= '0' && r <= '9'
		if i < letters {
			isRight = isLetter(r)
		}
		if !isRight && !(mayBeWorn && r == '?') {
			return false
		}
	}
	return true
}

func isLetter(r rune) bool {
	return r >= 'A' && r <= 'Z'
}

func isSeries(text string) bool {
	if len(text) < 1 || len(text) > maxLetters {
		return false
	}
	for _, r := range text {
		if !isLetter(r) {
			return false
		}
	}
	return true
}

// cut cuts a text with the form of a ring into its series and its digits.
func cut(text string) (series, tail string) {
	at := len(text) - tailDigits
	return text[:at], text[at:]
}

func digitsOf(text string) []int {
	digits := make([]int, 0, tailDigits)
	for _, r := range text {
		digits = append(digits, int(r-'0'))
	}
	return digits
}

// changes returns the texts in which one digit of text is another one.
func changes(text string) []string {
	var changed []string
	for i := len(text) - tailDigits; i < len(text); i++ {
		for _, r := range allDigits {
			if d := byte(r); d != text[i] {
				changed = append(changed, replace(text, i, d))
			}
		}
	}
	return changed
}

// exchanges returns the texts in which two different digits of text that are
// neighbors have changed their places.
func exchanges(text string) []string {
	var exchanged []string
	for i := len(text) - tailDigits; i+1 < len(text); i++ {
		if text[i] != text[i+1] {
			exchanged = append(exchanged, replace(replace(text, i, text[i+1]), i+1, text[i]))
		}
	}
	return exchanged
}

func replace(text string, i int, b byte) string {
	replaced := []byte(text)
	replaced[i] = b
	return string(replaced)
}
