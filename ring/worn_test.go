package ring_test

import (
	"fmt"
	"slices"
	"testing"

	"wigeon/api"
	"wigeon/ring"
)

func TestIsWorn(t *testing.T) {
	for _, text := range []string{"AB002367", "AB002364", "A000000", "???????", "????????", "?A12?456", "A?12?456", "?002367", "Z9?9?9?", "A??????", "ZZ99999?"} {
		if !ring.IsWorn(text) {
			t.Errorf("IsWorn(%q) is false", text)
		}
	}
	for _, text := range append([]string{"??????", "?????????", "AB0023A?", "A1?02367", "a??????", "?a??????", "*??????", "??????\xff", "?????é", "A?????? ", "??????>"}, malformed...) {
		if ring.IsWorn(text) {
			t.Errorf("IsWorn(%q) is true", text)
		}
	}
}

func TestFits(t *testing.T) {
	for _, c := range []struct {
		worn, ring string
		want       bool
	}{
		{"AB002367", "AB002367", true},
		{"????????", "AB002367", true},
		{"A?00236?", "AB002367", true},
		{"?B??????", "AB002367", true},
		{"AB002364", "AB002367", false},
		{"AB??????", "AC002367", false},
		{"?C002367", "AB002367", false},
		{"AB1?????", "AB002367", false},
		{"AB?????4", "AB002367", false},
		{"???????", "AB002367", false},
		{"A002367", "AB002367", false},
		{"????????", "A002367", false},
		{"???????", "A002367", true},
	} {
		if is, e := ring.Fits(c.worn, c.ring); is != c.want || e != api.OK {
			t.Errorf("Fits(%q, %q): %t, %d", c.worn, c.ring, is, e)
		}
	}
}

func TestFitsErrors(t *testing.T) {
	// The worn ring comes first, whatever the ring is.
	for _, worn := range append([]string{"??????"}, malformed...) {
		for _, r := range []string{"AB002367", "AB002364", "AB", worn} {
			if is, e := ring.Fits(worn, r); is || e != api.ErrSyntax {
				t.Errorf("Fits(%q, %q): %t, %d", worn, r, is, e)
			}
		}
	}
	for _, r := range append([]string{"????????", "AB00236?"}, malformed...) {
		if is, e := ring.Fits("????????", r); is || e != api.ErrSyntax {
			t.Errorf("Fits of %q: %t, %d", r, is, e)
		}
	}
	for _, worn := range []string{"????????", "AB002364", "A??????"} {
		if is, e := ring.Fits(worn, "AB002364"); is || e != api.ErrCheck {
			t.Errorf("Fits(%q) of a wrong ring: %t, %d", worn, is, e)
		}
	}
}

// fitting returns all rings that fit a worn one with few worn bytes, in ascending order.
func fitting(worn string) []string {
	for i := range len(worn) {
		if worn[i] != '?' {
			continue
		}
		fill := "0123456789"
		if i < len(worn)-6 {
			fill = "ABCDEFGHIJKLMNOPQRSTUVWXYZ"
		}
		var all []string
		for k := range len(fill) {
			all = append(all, fitting(with(worn, i, fill[k]))...)
		}
		return all
	}
	if isRing(worn) {
		return []string{worn}
	}
	return nil
}

// wornRings returns worn rings of all patterns with at most four worn bytes.
func wornRings() []string {
	var all []string
	for k, base := range []string{"A002367", "QZ910485", "AB002364", "ZZ999999"} {
		for pattern := range 1 << len(base) {
			text, n := base, 0
			for i := range len(base) {
				if pattern>>i&1 == 1 {
					text = with(text, i, '?')
					n++
				}
			}
			if n <= 3 || n == 4 && pattern%4 == k {
				all = append(all, text)
			}
		}
	}
	return all
}

func TestCountAndFirst(t *testing.T) {
	for _, worn := range wornRings() {
		want := fitting(worn)
		if n, e := ring.Count(worn); n != len(want) || e != api.OK {
			t.Errorf("Count(%q): %d, %d, want %d", worn, n, e, len(want))
		}
		first := ""
		if len(want) > 0 {
			first = slices.Min(want)
		}
		if r, ok, e := ring.First(worn); r != first || ok != (len(want) > 0) || e != api.OK {
			t.Errorf("First(%q): %q, %t, %d, want %q", worn, r, ok, e, first)
		}
	}
}

func TestCountOfManyWorn(t *testing.T) {
	for worn, want := range map[string]int{
		"A??????":  100000,
		"AB??????": 100000,
		"???????":  2600000,
		"????????": 67600000,
		"?B??????": 2600000,
		"??002367": 676,
		"??002364": 0,
		"?002367":  26,
		"?002364":  0,
		"??00236?": 676,
		"A?????1":  10000,
	} {
		if n, e := ring.Count(worn); n != want || e != api.OK {
			t.Errorf("Count(%q): %d, %d, want %d", worn, n, e, want)
		}
	}
	for _, worn := range []string{"A??????", "AB??????", "???????", "????????", "?B??????", "A?????1"} {
		r, ok, e := ring.First(worn)
		if is, _ := ring.Fits(worn, r); !ok || e != api.OK || !is {
			t.Fatalf("First(%q): %q, %t, %d", worn, r, ok, e)
		}
		at := len(r) - 6
		for n := 0; ; n++ {
			candidate := fmt.Sprintf("%s%06d", r[:at], n)
			if is, e := ring.Fits(worn, candidate); e == api.OK && is {
				if candidate != r {
					t.Errorf("First(%q): %q, want %q", worn, r, candidate)
				}
				break
			}
		}
	}
}

// TestOneWornDigit tests that exactly one worn digit can always be restored.
func TestOneWornDigit(t *testing.T) {
	for n := 0; n <= api.MaxNumber; n += 733 {
		for _, series := range []string{"R", "RW"} {
			r := make1(t, series, n)
			for i := len(series); i < len(r); i++ {
				worn := with(r, i, '?')
				if m, e := ring.Count(worn); m != 1 || e != api.OK {
					t.Errorf("Count(%q): %d, %d", worn, m, e)
				}
				if f, ok, e := ring.First(worn); f != r || !ok || e != api.OK {
					t.Errorf("First(%q): %q, %t, %d", worn, f, ok, e)
				}
			}
		}
	}
}

func TestCountAndFirstErrors(t *testing.T) {
	for _, worn := range append([]string{"??????", "?????????", "AB0023A?", "a??????"}, malformed...) {
		if n, e := ring.Count(worn); n != 0 || e != api.ErrSyntax {
			t.Errorf("Count(%q): %d, %d", worn, n, e)
		}
		if r, ok, e := ring.First(worn); r != "" || ok || e != api.ErrSyntax {
			t.Errorf("First(%q): %q, %t, %d", worn, r, ok, e)
		}
	}
}
