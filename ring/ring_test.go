package ring_test

import (
	"fmt"
	"math"
	"slices"
	"testing"

	"wigeon/api"
	"wigeon/ring"
)

// malformed are texts that do not have the form of a ring, worn or not.
var malformed = []string{
	"", "A", "AB", "002367", "02367", "A02367", "AB02367", "ABC002367", "AB0023670", "A0023670",
	"ab002367", "aB002367", "Ab002367", "1A002367", "A1002367", "[B002367", "@B002367",
	"AB00236a", "AB00236:", "AB00236/", "ABA02367", " B002367", "AB 02367", "AB002367 ", "AB00236\n",
	"ÄB02367", "Ä002367", "AB0023é", "A00236\xff", "\xffB002367", "AB00236\x00", "AB-02367", "AB+02367",
	"AB٣٢٣", "Ａ02367",
}

// isRing reports, by the chapter's words alone, whether letters and digits are a ring.
func isRing(text string) bool {
	n := len(text)
	if n != 7 && n != 8 {
		return false
	}
	digits := make([]int, 6)
	for i := range n {
		c := text[i]
		if i < n-6 {
			if c < 'A' || c > 'Z' {
				return false
			}
			continue
		}
		if c < '0' || c > '9' {
			return false
		}
		digits[i-n+6] = int(c - '0')
	}
	return wantSum(digits) == 0
}

// with returns text with the byte b in the place i.
func with(text string, i int, b byte) string {
	return text[:i] + string([]byte{b}) + text[i+1:]
}

// make1 makes a ring that must exist.
func make1(t *testing.T, series string, number int) string {
	t.Helper()
	r, e := ring.Make(series, number)
	if e != api.OK {
		t.Fatalf("Make(%q, %d): %d", series, number, e)
	}
	return r
}

func TestValid(t *testing.T) {
	for _, series := range []string{"A", "Z", "AA", "AZ", "ZZ", "QM"} {
		for n := 0; n <= api.MaxNumber; n += 997 {
			for check := range 10 {
				text := fmt.Sprintf("%s%05d%d", series, n, check)
				want := api.ErrCheck
				if isRing(text) {
					want = api.OK
				}
				if e := ring.Valid(text); e != want {
					t.Errorf("Valid(%q): %d, want %d", text, e, want)
				}
			}
		}
	}
	for _, text := range append([]string{"AB00236?", "?B002367", "A??????"}, malformed...) {
		if e := ring.Valid(text); e != api.ErrSyntax {
			t.Errorf("Valid(%q): %d", text, e)
		}
	}
}

// TestNoSlipPasses tests, for each number of a ring, that no wrong digit and no
// exchange of two digits that are neighbors passes for a ring.
func TestNoSlipPasses(t *testing.T) {
	for n := range api.MaxNumber + 1 {
		series := "W"
		if n%2 == 1 {
			series = "WI"
		}
		r := make1(t, series, n)
		for i := len(series); i < len(r); i++ {
			for d := byte('0'); d <= '9'; d++ {
				if d != r[i] && ring.Valid(with(r, i, d)) != api.ErrCheck {
					t.Fatalf("%q passes for %q", with(r, i, d), r)
				}
			}
			if i == len(series) || r[i] == r[i-1] {
				continue
			}
			slip := with(with(r, i, r[i-1]), i-1, r[i])
			if ring.Valid(slip) != api.ErrCheck {
				t.Fatalf("%q passes for %q", slip, r)
			}
		}
	}
}

func TestMake(t *testing.T) {
	for _, series := range []string{"A", "Z", "AA", "ZZ", "KL"} {
		for n := range api.MaxNumber + 1 {
			r, e := ring.Make(series, n)
			if e != api.OK || !isRing(r) || r[:len(r)-1] != fmt.Sprintf("%s%05d", series, n) {
				t.Fatalf("Make(%q, %d): %q, %d", series, n, r, e)
			}
		}
	}
	if r, e := ring.Make("AB", 236); r != "AB002367" || e != api.OK {
		t.Errorf("Make: %q, %d", r, e)
	}
}

func TestMakeErrors(t *testing.T) {
	for _, n := range []int{-1, 100000, math.MinInt, math.MaxInt} {
		if r, e := ring.Make("A", n); r != "" || e != api.ErrArg {
			t.Errorf("Make(A, %d): %q, %d", n, r, e)
		}
	}
	for _, series := range []string{"", "a", "Aa", "aA", "ABC", "A1", "1", "?", "A?", "Ä", " A", "@", "[", "\xff", "A\xff"} {
		// A wrong series comes before a wrong number.
		for _, n := range []int{0, -1, 100000} {
			if r, e := ring.Make(series, n); r != "" || e != api.ErrSyntax {
				t.Errorf("Make(%q, %d): %q, %d", series, n, r, e)
			}
		}
	}
}

func TestSplit(t *testing.T) {
	for _, series := range []string{"A", "Z", "AZ", "ZA"} {
		for n := 0; n <= api.MaxNumber; n += 271 {
			if s, m, e := ring.Split(make1(t, series, n)); s != series || m != n || e != api.OK {
				t.Errorf("Split of %s %d: %q, %d, %d", series, n, s, m, e)
			}
		}
		if s, m, e := ring.Split(make1(t, series, api.MaxNumber)); s != series || m != 99999 || e != api.OK {
			t.Errorf("Split of the last %s: %q, %d, %d", series, s, m, e)
		}
	}
	if s, n, e := ring.Split("AB002364"); s != "" || n != 0 || e != api.ErrCheck {
		t.Errorf("Split of a wrong ring: %q, %d, %d", s, n, e)
	}
	for _, text := range append([]string{"AB00236?"}, malformed...) {
		if s, n, e := ring.Split(text); s != "" || n != 0 || e != api.ErrSyntax {
			t.Errorf("Split(%q): %q, %d, %d", text, s, n, e)
		}
	}
}

func TestNext(t *testing.T) {
	for _, series := range []string{"B", "BZ"} {
		r := make1(t, series, 0)
		for n := 1; n <= api.MaxNumber; n++ {
			next, e := ring.Next(r)
			if next != make1(t, series, n) || e != api.OK {
				t.Fatalf("Next(%q): %q, %d", r, next, e)
			}
			r = next
		}
		if next, e := ring.Next(r); next != "" || e != api.ErrLarge {
			t.Errorf("Next(%q): %q, %d", r, next, e)
		}
		wrong := with(r, len(r)-1, '0'+(r[len(r)-1]-'0'+1)%10)
		if next, e := ring.Next(wrong); next != "" || e != api.ErrCheck {
			t.Errorf("Next(%q): %q, %d", wrong, next, e)
		}
	}
	for _, text := range append([]string{"AB00236?"}, malformed...) {
		if next, e := ring.Next(text); next != "" || e != api.ErrSyntax {
			t.Errorf("Next(%q): %q, %d", text, next, e)
		}
	}
}

// wantNear finds the rings near to a text among all texts with the same series.
func wantNear(text string) []string {
	var near []string
	at := len(text) - 6
	digits := []byte(text)
	for n := range 1000000 {
		for i, rest := len(text)-1, n; i >= at; i, rest = i-1, rest/10 {
			digits[i] = '0' + byte(rest%10)
		}
		candidate := string(digits)
		var differ []int
		for i := at; i < len(text); i++ {
			if candidate[i] != text[i] {
				differ = append(differ, i)
			}
		}
		isChange := len(differ) == 1
		isExchange := len(differ) == 2 && differ[1] == differ[0]+1 &&
			candidate[differ[0]] == text[differ[1]] && candidate[differ[1]] == text[differ[0]]
		if (isChange || isExchange) && isRing(candidate) {
			near = append(near, candidate)
		}
	}
	return near
}

func TestNear(t *testing.T) {
	for _, text := range []string{"AB003267", "AB002369", "AB002364", "A000001", "Z999999", "ZA123456", "Q102938", "AB002367", "A111112"} {
		want := wantNear(text)
		got, e := ring.Near(text)
		if !slices.Equal(got, want) || e != api.OK {
			t.Errorf("Near(%q): %v, %d, want %v", text, got, e, want)
		}
	}
	for _, text := range append([]string{"AB00236?", "?B002367"}, malformed...) {
		if l, e := ring.Near(text); len(l) != 0 || e != api.ErrSyntax {
			t.Errorf("Near(%q): %v, %d", text, l, e)
		}
	}
}

func TestNearOfSlips(t *testing.T) {
	for n := 0; n <= api.MaxNumber; n += 3331 {
		r := make1(t, "NE", n)
		if l, e := ring.Near(r); len(l) != 0 || e != api.OK {
			t.Errorf("Near(%q): %v, %d", r, l, e)
		}
		for i := 2; i < 8; i++ {
			for d := byte('0'); d <= '9'; d++ {
				slip := with(r, i, d)
				l, e := ring.Near(slip)
				if e != api.OK || slices.Contains(l, r) != (slip != r) {
					t.Errorf("Near(%q): %v, %d", slip, l, e)
				}
			}
		}
	}
}
