package whistle_test

import (
	"slices"
	"testing"

	"wigeon/api"
	"wigeon/whistle"
)

func TestValidate(t *testing.T) {
	for _, code := range [][]string{
		first(), allDots(), {"."}, {"-"}, {dots(12)}, {"------------", "............"}, {".", "..", "-", "--", ".-", "-."},
	} {
		if e := whistle.Validate(code); e != api.OK {
			t.Errorf("Validate(%q): %d", code, e)
		}
	}
	for _, c := range wrongCodes() {
		if e := whistle.Validate(c.code); e != c.e {
			t.Errorf("Validate(%q): %d, want %d", c.code, e, c.e)
		}
	}
}

// TestErrorsOfCodes tests that the errors of a code come before all others.
func TestErrorsOfCodes(t *testing.T) {
	for _, c := range wrongCodes() {
		for _, m := range [][]int{nil, {0}, {-1}, make([]int, 401)} {
			if s, e := whistle.Sound(c.code, m); s != "" || e != c.e {
				t.Errorf("Sound of %q: %q, %d, want %d", c.code, s, e, c.e)
			}
			if e := whistle.CheckAlike(c.code, m, nil); e != c.e {
				t.Errorf("CheckAlike of %q: %d, want %d", c.code, e, c.e)
			}
			if n, e := whistle.Cost(m, c.code); n != 0 || e != c.e {
				t.Errorf("Cost of %q: %d, %d, want %d", c.code, n, e, c.e)
			}
		}
		for _, text := range []string{"", ".", "a", dots(61)} {
			checkTextErrors(t, c.code, text, c.e)
		}
		if is, e := whistle.IsPrefix(c.code); is || e != c.e {
			t.Errorf("IsPrefix(%q): %t, %d, want %d", c.code, is, e, c.e)
		}
		if r, e := whistle.Kraft(c.code); r != (api.Rat{}) || e != c.e {
			t.Errorf("Kraft(%q): %v, %d, want %d", c.code, r, e, c.e)
		}
		if safe, e := whistle.IsSafe(c.code); safe || e != c.e {
			t.Errorf("IsSafe(%q): %t, %d, want %d", c.code, safe, e, c.e)
		}
		if a, b, found, e := whistle.Alike(c.code); len(a) != 0 || len(b) != 0 || found || e != c.e {
			t.Errorf("Alike(%q): %v, %v, %t, %d, want %d", c.code, a, b, found, e, c.e)
		}
		if l, e := whistle.Back(c.code); len(l) != 0 || e != c.e {
			t.Errorf("Back(%q): %q, %d, want %d", c.code, l, e, c.e)
		}
		if l, e := whistle.Ends(c.code); len(l) != 0 || e != c.e {
			t.Errorf("Ends(%q): %q, %d, want %d", c.code, l, e, c.e)
		}
	}
}

// checkTextErrors tests that all functions with a text have an error.
func checkTextErrors(t *testing.T, code []string, text string, want api.Errno) {
	t.Helper()
	if n, e := whistle.Heard(code, text); n != 0 || e != want {
		t.Errorf("Heard(%q, %q): %d, %d, want %d", code, text, n, e, want)
	}
	if m, ok, e := whistle.Decode(code, text); len(m) != 0 || ok || e != want {
		t.Errorf("Decode(%q, %q): %v, %t, %d, want %d", code, text, m, ok, e, want)
	}
	if l, rest, e := whistle.Commands(code, text); len(l) != 0 || rest != "" || e != want {
		t.Errorf("Commands(%q, %q): %q, %q, %d, want %d", code, text, l, rest, e, want)
	}
}

func TestErrorsOfTexts(t *testing.T) {
	for _, text := range []string{dots(61), dots(60) + "a", "a" + dots(60), dots(100000)} {
		checkTextErrors(t, first(), text, api.ErrLarge)
	}
	// 60 characters of two bytes each are too many bytes.
	checkTextErrors(t, first(), string(slices.Repeat([]rune{'·'}, 60)), api.ErrLarge)
	for _, text := range notNotes {
		checkTextErrors(t, first(), text, api.ErrArg)
		checkTextErrors(t, first(), "--"+text, api.ErrArg)
	}
	checkTextErrors(t, first(), dots(59)+"a", api.ErrArg)
	checkTextErrors(t, first(), "a"+dots(59), api.ErrArg)
}

func TestErrorsOfMessages(t *testing.T) {
	long, longest := make([]int, 401), make([]int, 400)
	badLong := slices.Repeat([]int{-1}, 401)
	for _, m := range [][]int{long, badLong, make([]int, 100000)} {
		if s, e := whistle.Sound(first(), m); s != "" || e != api.ErrLarge {
			t.Errorf("Sound of %d signals: %q, %d", len(m), s, e)
		}
		for _, other := range [][]int{nil, {0}, {3}, {-1}, longest, long} {
			if e := whistle.CheckAlike(first(), m, other); e != api.ErrLarge {
				t.Errorf("CheckAlike of %d signals, %v: %d", len(m), other, e)
			}
			if e := whistle.CheckAlike(first(), other, m); e != api.ErrLarge {
				t.Errorf("CheckAlike of %v, %d signals: %d", other, len(m), e)
			}
		}
	}
	for _, n := range append([]int{3, 4}, notNumbers...) {
		for _, m := range [][]int{{n}, {0, n}, {n, 0}, append(longest[:399:399], n)} {
			if s, e := whistle.Sound(first(), m); s != "" || e != api.ErrNone {
				t.Errorf("Sound of %v: %q, %d", m, s, e)
			}
			for _, other := range [][]int{nil, {0}, m, longest} {
				if e := whistle.CheckAlike(first(), m, other); e != api.ErrNone {
					t.Errorf("CheckAlike of %v, %v: %d", m, other, e)
				}
				if e := whistle.CheckAlike(first(), other, m); e != api.ErrNone {
					t.Errorf("CheckAlike of %v, %v: %d", other, m, e)
				}
			}
		}
	}
}
