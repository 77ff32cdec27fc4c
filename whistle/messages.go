package whistle

import (
	"slices"
	"strings"

	"wigeon/api"
)

// Sound returns how a message sounds.
func Sound(code []string, message []int) (string, api.Errno) {
	if e := checkMessages(code, message); e != api.OK {
		return "", e
	}
	return soundOf(code, message), api.OK
}

// Heard returns the number of messages that sound like a text.
func Heard(code []string, text string) (int, api.Errno) {
	if e := checkText(code, text); e != api.OK {
		return 0, e
	}
	// The messages that sound like the text from each of its notes on: few
	// enough notes that their number fits into an int.
	from := make([]int, len(text)+1)
	from[len(text)] = 1
	for at := len(text) - 1; at >= 0; at-- {
		for _, signal := range code {
			if strings.HasPrefix(text[at:], signal) {
				from[at] += from[at+len(signal)]
			}
		}
	}
	return from[0], api.OK
}

// Decode returns the first message that sounds like a text, and whether there
// is one.
func Decode(code []string, text string) ([]int, bool, api.Errno) {
	if e := checkText(code, text); e != api.OK {
		return nil, false, e
	}
	var message []int
	vain := make([]bool, len(text)+1) // no message sounds like the text from there
	var find func(at int) bool
	find = func(at int) bool {
		if at == len(text) {
			return true
		}
		if vain[at] {
			return false
		}
		for i, signal := range code {
			if strings.HasPrefix(text[at:], signal) && find(at+len(signal)) {
				message = append(message, i)
				return true
			}
		}
		vain[at] = true
		return false
	}
	if !find(0) {
		return nil, false, api.OK
	}
	slices.Reverse(message) // it was found from its end
	return message, true, api.OK
}

// Commands returns the signals that a dog obeys which takes the first one that
// fits, and the rest of the text, of which it understands nothing.
func Commands(code []string, text string) ([]string, string, api.Errno) {
	if e := checkText(code, text); e != api.OK {
		return nil, "", e
	}
	var signals []string
	rest := text
	for {
		i := slices.IndexFunc(code, func(signal string) bool {
			return strings.HasPrefix(rest, signal)
		})
		if i < 0 {
			return signals, rest, api.OK
		}
		signals = append(signals, code[i])
		rest = rest[len(code[i]):]
	}
}

func soundOf(code []string, message []int) string {
	var sound strings.Builder
	for _, n := range message {
		sound.WriteString(code[n])
	}
	return sound.String()
}
