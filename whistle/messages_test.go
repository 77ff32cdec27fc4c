package whistle_test

import (
	"math/rand/v2"
	"slices"
	"strings"
	"testing"

	"wigeon/api"
	"wigeon/whistle"
)

func TestSound(t *testing.T) {
	for _, c := range []struct {
		message []int
		want    string
	}{
		{nil, ""}, {[]int{}, ""}, {[]int{0, 2}, ".-."}, {[]int{1, 0}, ".-."}, {[]int{2, 2, 1}, "-.-..-"},
		{slices.Repeat([]int{2}, 400), strings.Repeat("-.", 400)},
	} {
		if s, e := whistle.Sound(first(), c.message); s != c.want || e != api.OK {
			t.Errorf("Sound(%v): %q, %d, want %q", c.message, s, e, c.want)
		}
	}
	someCodes(200, 12, 12, func(code []string, r *rand.Rand) {
		m := make([]int, r.IntN(20))
		for i := range m {
			m[i] = r.IntN(len(code))
		}
		given := slices.Clone(m)
		if s, e := whistle.Sound(code, m); s != wantSound(code, given) || e != api.OK || !slices.Equal(m, given) {
			t.Fatalf("Sound(%q, %v): %q, %d", code, given, s, e)
		}
	})
}

func TestHeard(t *testing.T) {
	for _, c := range []struct {
		code []string
		text string
		want int
	}{
		{first(), "", 1}, {first(), ".-.", 2}, {first(), "--", 0}, {first(), ".-", 1}, {first(), ".-..-.", 4},
		{[]string{dots(12)}, dots(60), 1}, {[]string{dots(11)}, dots(60), 0}, {[]string{"."}, dots(60), 1},
		{[]string{".", "-"}, someText(rand.New(rand.NewPCG(1, 2)), 60), 1},
		{[]string{".", ".."}, dots(60), 2504730781961},
	} {
		if n, e := whistle.Heard(c.code, c.text); n != c.want || e != api.OK {
			t.Errorf("Heard(%q, %q): %d, %d, want %d", c.code, c.text, n, e, c.want)
		}
	}
	// The most messages there can be: 60 is divided into parts of at most 12.
	ways := []int{1, 1}
	for n := 2; n <= 60; n++ {
		w := 2 * ways[n-1]
		if n > 12 {
			w -= ways[n-13]
		}
		ways = append(ways, w)
	}
	for n, want := range ways {
		if got, e := whistle.Heard(allDots(), dots(n)); got != want || e != api.OK {
			t.Errorf("Heard of %d short notes: %d, %d, want %d", n, got, e, want)
		}
	}
}

func TestDecode(t *testing.T) {
	for _, c := range []struct {
		code []string
		text string
		want []int
		ok   bool
	}{
		{first(), "", nil, true},
		{first(), ".-.", []int{0, 2}, true},
		{first(), ".-", []int{1}, true},
		{first(), "--", nil, false},
		{first(), dots(59) + "-", append(make([]int, 58), 1), true},
		{first(), "--" + dots(58), nil, false},
		{[]string{"..", "."}, "...", []int{0, 1}, true},
		{[]string{"...", "..", "."}, "....", []int{0, 2}, true},
		{[]string{".", ".."}, "...", []int{0, 0, 0}, true},
		// There are very many ways to hear the beginning.
		{allDots(), dots(59) + "-", nil, false},
		{append(allDots()[:11], "-"), dots(59) + "-", append(make([]int, 59), 11), true},
		{[]string{dots(11), dots(12)}, dots(60), slices.Repeat([]int{1}, 5), true},
	} {
		m, ok, e := whistle.Decode(c.code, c.text)
		if !slices.Equal(m, c.want) || ok != c.ok || e != api.OK {
			t.Errorf("Decode(%q, %q): %v, %t, %d, want %v, %t", c.code, c.text, m, ok, e, c.want, c.ok)
		}
	}
}

// TestMessages tests what is heard of all short texts in many codes.
func TestMessages(t *testing.T) {
	texts := textsUpTo(6)
	many, none := 0, 0
	look := func(code []string) {
		given := slices.Clone(code)
		all := wantMessages(code, 6)
		for _, text := range texts {
			want := all[text]
			if n, e := whistle.Heard(code, text); n != len(want) || e != api.OK {
				t.Fatalf("Heard(%q, %q): %d, %d, want %d", code, text, n, e, len(want))
			}
			m, ok, e := whistle.Decode(code, text)
			if ok != (len(want) > 0) || e != api.OK || ok && !slices.Equal(m, want[0]) || !ok && len(m) > 0 {
				t.Fatalf("Decode(%q, %q): %v, %t, %d, want one of %v", code, text, m, ok, e, want)
			}
			if len(want) > 1 {
				many++
			} else if len(want) == 0 {
				none++
			}
		}
		if !slices.Equal(code, given) {
			t.Fatalf("%q has become %q", given, code)
		}
	}
	smallCodes(look)
	someCodes(200, 7, 4, func(code []string, _ *rand.Rand) { look(code) })
	if many < 1000 || none < 1000 {
		t.Errorf("%d texts are heard in several ways, %d in none", many, none)
	}
}

func TestCommands(t *testing.T) {
	for _, c := range []struct {
		code []string
		text string
		want []string
		rest string
	}{
		{[]string{"-.", "."}, ".-.--", []string{".", "-."}, "--"},
		{[]string{".", ".-"}, ".-.", []string{"."}, "-."},
		{[]string{".-", "."}, ".-.", []string{".-", "."}, ""},
		{[]string{"..", "."}, "...", []string{"..", "."}, ""},
		{[]string{"..", ".-"}, "...-", []string{"..", ".-"}, ""},
		{[]string{"..", ".-"}, "....-", []string{"..", ".."}, "-"},
		{first(), "", nil, ""},
		{[]string{"-"}, dots(60), nil, dots(60)},
		{[]string{"."}, dots(60), slices.Repeat([]string{"."}, 60), ""},
	} {
		l, rest, e := whistle.Commands(c.code, c.text)
		if !slices.Equal(l, c.want) || rest != c.rest || e != api.OK {
			t.Errorf("Commands(%q, %q): %q, %q, %d, want %q, %q", c.code, c.text, l, rest, e, c.want, c.rest)
		}
	}
	someCodes(3000, 12, 6, func(code []string, r *rand.Rand) {
		text := someText(r, r.IntN(61))
		want, left := wantCommands(code, text)
		l, rest, e := whistle.Commands(code, text)
		if !slices.Equal(l, want) || rest != left || e != api.OK || strings.Join(l, "")+rest != text {
			t.Fatalf("Commands(%q, %q): %q, %q, %d, want %q, %q", code, text, l, rest, e, want, left)
		}
		// The code is not kept: what is given out is not changed with it.
		clear(code)
		if !slices.Equal(l, want) {
			t.Fatalf("Commands has given out a part of the code")
		}
	})
}

// TestCommandsOfPrefixCodes tests that the dog obeys such a message whole, and
// hears it in one way.
func TestCommandsOfPrefixCodes(t *testing.T) {
	texts := textsUpTo(6)
	whole, cut := 0, 0
	smallCodes(func(code []string) {
		if !isPrefix(t, code) {
			return
		}
		for _, text := range texts {
			n, _ := whistle.Heard(code, text)
			_, rest, _ := whistle.Commands(code, text)
			if n > 1 || (n == 1) != (rest == "") {
				t.Fatalf("%q in %q: heard %d times, the rest %q", text, code, n, rest)
			}
			if n == 1 {
				whole++
			} else {
				cut++
			}
		}
	})
	if whole < 1000 || cut < 1000 {
		t.Errorf("%d messages are whole, %d are not", whole, cut)
	}
}
