package whistle_test

import (
	"math/rand/v2"
	"slices"
	"strings"
	"testing"

	"wigeon/api"
	"wigeon/whistle"
)

func TestIsPrefix(t *testing.T) {
	for _, c := range []struct {
		code []string
		want bool
	}{
		{first(), false}, {[]string{"."}, true}, {[]string{".", "-"}, true}, {[]string{".", "-.", "--"}, true},
		{[]string{".-", "."}, false}, {[]string{".", ".-"}, false}, {[]string{"-.", "."}, true}, {allDots(), false},
		{[]string{"--.", "-..", "--"}, false}, {[]string{"-", "..-", ".-", "...", "..."[:2]}, false},
	} {
		if is, e := whistle.IsPrefix(c.code); is != c.want || e != api.OK {
			t.Errorf("IsPrefix(%q): %t, %d, want %t", c.code, is, e, c.want)
		}
	}
	smallCodes(func(code []string) {
		want := true
		for _, x := range code {
			for _, y := range code {
				want = want && (x == y || len(x) > len(y) || y[:len(x)] != x)
			}
		}
		if isPrefix(t, code) != want {
			t.Fatalf("IsPrefix(%q): %t", code, !want)
		}
	})
}

func TestIsSafe(t *testing.T) {
	for _, c := range []struct {
		code []string
		want bool
	}{
		{first(), false}, {[]string{".", ".-"}, true}, {[]string{"."}, true}, {[]string{".", "-"}, true}, {[]string{".", ".."}, false},
		{[]string{dots(12), dots(11)}, false}, {[]string{"..", "...", "-"}, false}, {allDots(), false},
		// A signal begins with another one, but what is left over is no signal.
		{[]string{".-", ".--", "-."}, true}, {[]string{".-", ".--", "--"}, true}, {[]string{".", ".-", "--"}, true},
		{[]string{".", ".-", ".--", ".---"}, true}, {[]string{"-", ".-", "..-", "...-", "...."}, true},
		// Only a long text is heard in two ways.
		{[]string{".-.-.-.-.-.-", "-.-.-.-.-.-.", ".-.-.-.-.-.", "-"}, false},
	} {
		if safe, e := whistle.IsSafe(c.code); safe != c.want || e != api.OK {
			t.Errorf("IsSafe(%q): %t, %d, want %t", c.code, safe, e, c.want)
		}
	}
}

func TestCheckAlike(t *testing.T) {
	for _, c := range []struct {
		a, b []int
		want api.Errno
	}{
		{[]int{0, 2}, []int{1, 0}, api.OK},
		{[]int{1, 0}, []int{0, 2}, api.OK},
		{[]int{2, 2, 0, 2}, []int{2, 2, 1, 0}, api.OK},
		{slices.Concat(make([]int, 398), []int{0, 2}), slices.Concat(make([]int, 398), []int{1, 0}), api.OK},
		{nil, nil, api.ErrProof},
		{nil, []int{}, api.ErrProof},
		{[]int{0}, []int{0}, api.ErrProof},
		{[]int{0, 2}, []int{0, 2}, api.ErrProof},
		{[]int{0}, []int{1}, api.ErrProof},
		{[]int{0, 1}, []int{1, 0}, api.ErrProof},
		{[]int{1}, []int{2}, api.ErrProof},
		{[]int{0, 2}, []int{1}, api.ErrProof},
		{nil, []int{0}, api.ErrProof},
		{make([]int, 400), make([]int, 399), api.ErrProof},
		{make([]int, 400), make([]int, 400), api.ErrProof},
	} {
		if e := whistle.CheckAlike(first(), c.a, c.b); e != c.want {
			t.Errorf("CheckAlike(%v, %v): %d, want %d", c.a, c.b, e, c.want)
		}
	}
	if e := whistle.CheckAlike(allDots(), slices.Repeat([]int{11}, 100), make([]int, 400)); e != api.ErrProof {
		t.Errorf("CheckAlike of 1200 and 400 notes: %d", e)
	}
	if e := whistle.CheckAlike(allDots(), slices.Repeat([]int{11}, 33), slices.Repeat([]int{0}, 396)); e != api.OK {
		t.Errorf("CheckAlike of 396 notes: %d", e)
	}
}

func TestEnds(t *testing.T) {
	for _, c := range []struct{ code, want []string }{
		{first(), []string{"-", "."}},
		{[]string{".", ".-"}, []string{"-"}},
		{[]string{".", "-.", "--"}, nil},
		{[]string{"..", "...", "-"}, []string{".", ".."}},
		{[]string{dots(12)}, nil},
		{[]string{dots(12), "."}, allDots()[:11]},
		{[]string{"-", "-..", "--.", "-.-"}, []string{"-", "-.", ".", ".-", ".."}},
	} {
		if l, e := whistle.Ends(c.code); !slices.Equal(l, c.want) || e != api.OK {
			t.Errorf("Ends(%q): %q, %d, want %q", c.code, l, e, c.want)
		}
	}
}

// proves reports whether two messages prove that a code is not safe.
func proves(code []string, a, b []int) bool {
	return len(a) <= 400 && len(b) <= 400 && !slices.Equal(a, b) && wantSound(code, a) == wantSound(code, b)
}

// checkSafe tests S5, and all that belongs to it, for a code, and reports
// whether it is safe.
func checkSafe(t *testing.T, code []string) bool {
	t.Helper()
	given := slices.Clone(code)
	safe := isSafe(t, code)
	if safe != wantSafe(code) {
		t.Fatalf("IsSafe(%q): %t", code, safe)
	}
	ends, e := whistle.Ends(code)
	want := slices.DeleteFunc(wantEnds(code), func(s string) bool { return s == "" })
	if !slices.Equal(ends, want) || e != api.OK {
		t.Fatalf("Ends(%q): %q, %d, want %q", code, ends, e, want)
	}
	isEnd := func(s string) bool { return slices.Contains(ends, s) }
	if safe == slices.ContainsFunc(code, isEnd) {
		t.Fatalf("%q: safe %t, ends %q", code, safe, ends)
	}
	a, b, found, e := whistle.Alike(code)
	if found == safe || e != api.OK || found && !proves(code, a, b) || !found && len(a)+len(b) > 0 {
		t.Fatalf("Alike(%q): %v, %v, %t, %d", code, a, b, found, e)
	}
	if found && whistle.CheckAlike(code, a, b) != api.OK {
		t.Fatalf("CheckAlike(%q, %v, %v) is not OK", code, a, b)
	}
	if !slices.Equal(code, given) {
		t.Fatalf("%q has become %q", given, code)
	}
	return safe
}

func TestSafeCodes(t *testing.T) {
	safe, not, more := 0, 0, 0
	look := func(code []string) {
		if !checkSafe(t, code) {
			not++
			return
		}
		safe++
		if !isPrefix(t, code) {
			more++
		}
	}
	smallCodes(look)
	someCodes(3000, 5, 6, func(code []string, _ *rand.Rand) { look(code) })
	someCodes(300, 12, 12, func(code []string, _ *rand.Rand) { look(code) })
	if safe < 1000 || not < 1000 || more < 100 {
		t.Errorf("%d codes are safe, %d of them without IsPrefix, %d are not", safe, more, not)
	}
}

// TestLongMessages tests codes for which two messages meet late.
func TestLongMessages(t *testing.T) {
	for _, code := range [][]string{
		allDots(),
		{dots(12), dots(11)},
		{dots(11), dots(12)},
		{dots(12), dots(7), dots(5) + "-"},
		{dots(11), dots(12), dots(10) + "-", "-"},
		{dots(12), dots(11) + "-", dots(10), "-" + dots(11), "-" + dots(4), "--"},
		{strings.Repeat(".-", 6), strings.Repeat("-.", 6), strings.Repeat(".-", 5) + ".", "-"},
		{dots(12), dots(11), dots(11) + "-", dots(10) + "--", dots(9) + "---", dots(8) + "----"},
	} {
		checkSafe(t, code)
	}
}

func TestAlikeMemory(t *testing.T) {
	someCodes(300, 6, 4, func(code []string, _ *rand.Rand) {
		a, b, _, _ := whistle.Alike(code)
		c, d, _, _ := whistle.Alike(code)
		if !slices.Equal(a, c) || !slices.Equal(b, d) {
			t.Fatalf("Alike(%q): %v, %v, and then %v, %v", code, a, b, c, d)
		}
		longer := append(a, -5)
		for i := range longer {
			longer[i] = -5
		}
		clear(a[:cap(a)])
		if !slices.Equal(b, d) {
			t.Fatalf("the messages of Alike(%q) share memory", code)
		}
	})
}

func TestBack(t *testing.T) {
	if l, e := whistle.Back([]string{".--", "-", "-.", "..-.-"}); !slices.Equal(l, []string{"--.", "-", ".-", "-.-.."}) || e != api.OK {
		t.Errorf("Back: %q, %d", l, e)
	}
	look := func(code []string) {
		given := slices.Clone(code)
		back, e := whistle.Back(code)
		if len(back) != len(code) || e != api.OK || !slices.Equal(code, given) {
			t.Fatalf("Back(%q): %q, %d", code, back, e)
		}
		for i, s := range back {
			for k := range max(len(s), len(code[i])) {
				if len(s) != len(code[i]) || s[k] != code[i][len(s)-1-k] {
					t.Fatalf("Back(%q): %q", code, back)
				}
			}
		}
		if isSafe(t, back) != isSafe(t, code) {
			t.Fatalf("%q is safe: %t, turned round: %t", code, isSafe(t, code), isSafe(t, back))
		}
		clear(back)
		if !slices.Equal(code, given) {
			t.Fatalf("Back has given out the code")
		}
	}
	smallCodes(look)
	someCodes(500, 12, 12, func(code []string, _ *rand.Rand) { look(code) })
}

// TestWhatIsSafe tests that a prefix code is safe, and a safe code not too full.
func TestWhatIsSafe(t *testing.T) {
	look := func(code []string) {
		safe := isSafe(t, code)
		if isPrefix(t, code) && !safe {
			t.Fatalf("%q has IsPrefix, but is not safe", code)
		}
		r, _ := whistle.Kraft(code)
		if safe && r.Num > r.Den {
			t.Fatalf("%q is safe with Kraft %v", code, r)
		}
	}
	smallCodes(look)
	someCodes(3000, 12, 5, func(code []string, _ *rand.Rand) { look(code) })
}
