package whistle

import (
	"slices"
	"strings"

	"wigeon/api"
)

// IsPrefix reports whether no signal of a code begins with another one.
func IsPrefix(code []string) (bool, api.Errno) {
	if e := Validate(code); e != api.OK {
		return false, e
	}
	for i, signal := range code {
		for j, other := range code {
			if i != j && strings.HasPrefix(signal, other) {
				return false, api.OK
			}
		}
	}
	return true, api.OK
}

// IsSafe reports whether no two messages sound alike.
func IsSafe(code []string) (bool, api.Errno) {
	if e := Validate(code); e != api.OK {
		return false, e
	}
	return !leave(code).met, api.OK
}

// CheckAlike returns api.OK if two messages prove that a code is not safe.
func CheckAlike(code []string, a, b []int) api.Errno {
	if e := checkMessages(code, a, b); e != api.OK {
		return e
	}
	if slices.Equal(a, b) || soundOf(code, a) != soundOf(code, b) {
		return api.ErrProof
	}
	return api.OK
}

// Alike returns two messages that sound alike, and whether there are such.
func Alike(code []string) (a, b []int, found bool, e api.Errno) {
	if e := Validate(code); e != api.OK {
		return nil, nil, false, e
	}
	l := leave(code)
	return l.a, l.b, l.met, api.OK
}

// Ends returns the texts that can be left over when one message is ahead of
// another one.
func Ends(code []string) ([]string, api.Errno) {
	if e := Validate(code); e != api.OK {
		return nil, e
	}
	ends := leave(code).ends
	slices.Sort(ends)
	return ends, api.OK
}

// Back returns a code with each signal turned round.
func Back(code []string) ([]string, api.Errno) {
	if e := Validate(code); e != api.OK {
		return nil, e
	}
	var back []string
	for _, signal := range code {
		back = append(back, turn(signal))
	}
	return back, api.OK
}

// left is what two messages can leave over: the ends that are not empty, and,
// if the empty text is an end too, two messages that met there.
type left struct {
	ends []string
	a, b []int
	met  bool
}

// leave follows two messages, of which one is ahead of the other, from each end
// to all that come of it.
func leave(code []string) left {
	var l left
	seen := map[string]bool{}
	var follow func(end string, ahead, behind []int)
	follow = func(end string, ahead, behind []int) {
		if seen[end] {
			return
		}
		seen[end] = true
		if end == "" {
			l.a, l.b, l.met = ahead, behind, true
			return
		}
		l.ends = append(l.ends, end)
		for i, signal := range code {
			// Clipped, so that messages that go on from the same one differ.
			longer := append(slices.Clip(behind), i)
			if rest, ok := strings.CutPrefix(end, signal); ok {
				follow(rest, ahead, longer)
			} else if rest, ok := strings.CutPrefix(signal, end); ok {
				follow(rest, longer, ahead)
			}
		}
	}
	for i, signal := range code {
		for j, other := range code {
			if end, ok := strings.CutPrefix(signal, other); ok && i != j {
				follow(end, []int{i}, []int{j})
			}
		}
	}
	return l
}

func turn(signal string) string {
	turned := ""
	for _, note := range signal {
		turned = string(note) + turned
	}
	return turned
}
