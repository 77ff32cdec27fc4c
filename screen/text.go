package screen

import (
	"strconv"
	"strings"

	"wigeon/api"
)

// Format returns screens as a text with a line for each.
func Format(l []api.Screen) (string, api.Errno) {
	if e := Validate(l); e != api.OK {
		return "", e
	}
	var text strings.Builder
	for _, s := range l {
		text.WriteString(formatScreen(s))
		text.WriteByte('\n')
	}
	return text.String(), api.OK
}

// Parse returns the screens whose Format is a text.
func Parse(text string) ([]api.Screen, api.Errno) {
	var l []api.Screen
	for line := range strings.Lines(text) {
		s, ok := parseScreen(strings.TrimSuffix(line, "\n"))
		if !ok || len(l) == api.MaxScreens {
			return nil, api.ErrSyntax
		}
		l = append(l, s)
	}
	// A number can be read from several texts (0 from -0): only Format's counts.
	if again, e := Format(l); e != api.OK || again != text {
		return nil, api.ErrSyntax
	}
	return l, api.OK
}

func formatScreen(s api.Screen) string {
	return strconv.Itoa(s.A.X) + " " + strconv.Itoa(s.A.Y) + " " +
		strconv.Itoa(s.B.X) + " " + strconv.Itoa(s.B.Y)
}

func parseScreen(line string) (api.Screen, bool) {
	words := strings.SplitN(line, " ", 5)
	if len(words) != 4 {
		return api.Screen{}, false
	}
	var n [4]int
	for i, word := range words {
		number, err := strconv.Atoi(word)
		if err != nil {
			return api.Screen{}, false
		}
		n[i] = number
	}
	return api.Screen{A: api.Point{X: n[0], Y: n[1]}, B: api.Point{X: n[2], Y: n[3]}}, true
}
