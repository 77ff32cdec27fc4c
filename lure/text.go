package lure

import (
	"strconv"
	"strings"

	"wigeon/api"
)

// Format returns a game as a text with a line for each place.
func Format(g api.Game) (string, api.Errno) {
	if e := Validate(g); e != api.OK {
		return "", e
	}
	var text strings.Builder
	for p, owner := range g.Owner {
		text.WriteString(strconv.Itoa(owner))
		for _, to := range g.Moves[p] {
			text.WriteString(" " + strconv.Itoa(to))
		}
		text.WriteByte('\n')
	}
	return text.String(), api.OK
}

// Parse returns the game whose Format is a text.
func Parse(text string) (api.Game, api.Errno) {
	if len(text) > api.MaxText {
		return api.Game{}, api.ErrLarge
	}
	var g api.Game
	for line := range strings.Lines(text) {
		n, ok := numbersOf(strings.TrimSuffix(line, "\n"))
		if !ok {
			return api.Game{}, api.ErrSyntax
		}
		g.Owner = append(g.Owner, n[0])
		g.Moves = append(g.Moves, n[1:])
	}
	// A number can be read from several texts (0 from 00): only Format's counts.
	if again, e := Format(g); e != api.OK || again != text {
		return api.Game{}, api.ErrSyntax
	}
	return g, api.OK
}

// numbersOf returns the numbers of a line, at least one, and whether it is made
// of numbers.
func numbersOf(line string) ([]int, bool) {
	var numbers []int
	for word := range strings.SplitSeq(line, " ") {
		n, err := strconv.Atoi(word)
		if err != nil {
			return nil, false
		}
		numbers = append(numbers, n)
	}
	return numbers, true
}
