package book_test

import (
	"math"
	"math/rand/v2"
	"slices"
	"strings"
	"testing"

	"wigeon/api"
	"wigeon/book"
)

func TestIsPage(t *testing.T) {
	for _, page := range []string{" ", "~", "a", "page 0", "pages 0 0", "  ", longPage, strings.Repeat(" ", 60)} {
		if !book.IsPage(page) {
			t.Errorf("IsPage(%q): false", page)
		}
	}
	for _, text := range []string{"", longPage + "~", strings.Repeat("a", 100000), "a\n", "\n", "\r", "a\tb", "ä", "a\x80", "\xff", "a\x00"} {
		if book.IsPage(text) {
			t.Errorf("IsPage(%q): true", text)
		}
	}
	for b := range 256 {
		want := b >= 32 && b <= 126
		for _, text := range []string{string([]byte{byte(b)}), string([]byte{'a', byte(b), 'c'}), longPage[1:] + string([]byte{byte(b)})} {
			if is := book.IsPage(text); is != want {
				t.Errorf("IsPage(%q): %t", text, is)
			}
			sum, e := book.Leaf(text)
			if want && (sum != wantLeaf(text) || e != api.OK) || !want && (sum != 0 || e != api.ErrArg) {
				t.Errorf("Leaf(%q): %d, %d", text, sum, e)
			}
		}
	}
}

func TestLeaf(t *testing.T) {
	for _, x := range []struct {
		page string
		want int
	}{
		{" ", 290}, {"a", 355}, {"~", 384}, {"ab", 355*257 + 99}, {"ba", 356*257 + 98}, {"abc", 91334*257 + 100},
		{"abcd", ((91334*257+100)*257 + 101) % 2147483647},
	} {
		if sum, e := book.Leaf(x.page); sum != x.want || e != api.OK {
			t.Errorf("Leaf(%q): %d, %d, want %d", x.page, sum, e, x.want)
		}
	}
	r := rand.New(rand.NewPCG(9, 2))
	for _, page := range append(somePages(r, 3000), longPage, strings.Repeat(" ", 60)) {
		if sum, e := book.Leaf(page); sum != wantLeaf(page) || e != api.OK {
			t.Errorf("Leaf(%q): %d, %d, want %d", page, sum, e, wantLeaf(page))
		}
	}
	for _, text := range []string{"", longPage + "~", "a\n", "ä"} {
		if sum, e := book.Leaf(text); sum != 0 || e != api.ErrArg {
			t.Errorf("Leaf(%q): %d, %d", text, sum, e)
		}
	}
}

func TestJoin(t *testing.T) {
	for _, x := range []struct{ x, y, want int }{
		{0, 0, 1}, {1, 0, 48272}, {0, 1, 16808}, {2, 3, 146964},
		{api.Prime - 1, api.Prime - 1, api.Prime - 48271 - 16807 + 1},
		{api.Prime - 1, 0, api.Prime - 48271 + 1}, {0, api.Prime - 1, api.Prime - 16807 + 1},
	} {
		if sum, e := book.Join(x.x, x.y); sum != x.want || e != api.OK {
			t.Errorf("Join(%d, %d): %d, %d, want %d", x.x, x.y, sum, e, x.want)
		}
	}
	r := rand.New(rand.NewPCG(9, 3))
	for range 3000 {
		x, y := r.IntN(api.Prime), r.IntN(api.Prime)
		if sum, e := book.Join(x, y); sum != wantJoin(x, y) || e != api.OK {
			t.Errorf("Join(%d, %d): %d, %d, want %d", x, y, sum, e, wantJoin(x, y))
		}
	}
	for _, bad := range notSums {
		for _, pair := range [][2]int{{bad, 0}, {0, bad}, {bad, bad}, {api.Prime - 1, bad}} {
			if sum, e := book.Join(pair[0], pair[1]); sum != 0 || e != api.ErrArg {
				t.Errorf("Join(%d, %d): %d, %d", pair[0], pair[1], sum, e)
			}
		}
	}
}

func TestSplit(t *testing.T) {
	for n := 2; n <= 64; n++ {
		k, e := book.Split(n)
		if e != api.OK || k < 1 || k&(k-1) != 0 || k >= n || 2*k < n {
			t.Errorf("Split(%d): %d, %d", n, k, e)
		}
	}
	for n, want := range map[int]int{2: 1, 3: 2, 4: 2, 5: 4, 8: 4, 9: 8, 32: 16, 33: 32, 64: 32} {
		if k, e := book.Split(n); k != want || e != api.OK {
			t.Errorf("Split(%d): %d, %d, want %d", n, k, e, want)
		}
	}
	for _, n := range []int{1, 0, -1, -2, 65, 128, math.MinInt, math.MaxInt} {
		if k, e := book.Split(n); k != 0 || e != api.ErrArg {
			t.Errorf("Split(%d): %d, %d", n, k, e)
		}
	}
}

func TestValidatePages(t *testing.T) {
	for _, l := range [][]string{nil, {}, {" "}, {"a", "a"}, {longPage}, {"pages 1 5"}, numbered(64), slices.Repeat([]string{longPage}, 64)} {
		if e := book.ValidatePages(l); e != api.OK {
			t.Errorf("ValidatePages(%q): %d", l, e)
		}
	}
	for _, x := range pageErrors {
		if e := book.ValidatePages(x.l); e != x.want {
			t.Errorf("ValidatePages(%q): %d, want %d", x.l, e, x.want)
		}
	}
}

// TestErrorsOfPages tests that all functions with pages return the errors of the
// pages, and before their own ones.
func TestErrorsOfPages(t *testing.T) {
	for _, x := range pageErrors {
		if root, e := book.Root(x.l); root != 0 || e != x.want {
			t.Errorf("Root(%q): %d, %d, want %d", x.l, root, e, x.want)
		}
		if text, e := book.Write(x.l); text != "" || e != x.want {
			t.Errorf("Write(%q): %q, %d, want %d", x.l, text, e, x.want)
		}
		for _, i := range []int{0, 1, -1, 65, 100000} {
			if proof, e := book.Proof(x.l, i); len(proof) != 0 || e != x.want {
				t.Errorf("Proof(%q, %d): %d, %d, want %d", x.l, i, proof, e, x.want)
			}
			if proof, e := book.Growth(x.l, i); len(proof) != 0 || e != x.want {
				t.Errorf("Growth(%q, %d): %d, %d, want %d", x.l, i, proof, e, x.want)
			}
		}
		for _, other := range [][]string{nil, {"a"}, numbered(64)} {
			if n, e := book.Common(x.l, other); n != 0 || e != x.want {
				t.Errorf("Common(%q, %q): %d, %d, want %d", x.l, other, n, e, x.want)
			}
			if n, e := book.Common(other, x.l); n != 0 || e != x.want {
				t.Errorf("Common(%q, %q): %d, %d, want %d", other, x.l, n, e, x.want)
			}
		}
		for _, y := range pageErrors {
			if n, e := book.Common(x.l, y.l); n != 0 || e != x.want {
				t.Errorf("Common(%q, %q): %d, %d, want %d", x.l, y.l, n, e, x.want)
			}
		}
	}
}

func TestRoot(t *testing.T) {
	for _, x := range []struct {
		l    []string
		want int
	}{
		{nil, 0},
		{[]string{}, 0},
		{[]string{"a"}, 355},
		{[]string{"a", "b"}, 355*48271 + 356*16807 + 1},
		{[]string{"b", "a"}, 356*48271 + 355*16807 + 1},
		{[]string{"a", "b", "c"}, ((355*48271+356*16807+1)*48271 + 357*16807 + 1) % 2147483647},
		{[]string{"a", "b", "c", "d"}, ((355*48271+356*16807+1)*48271 + (357*48271+358*16807+1)*16807 + 1) % 2147483647},
	} {
		if root, e := book.Root(x.l); root != x.want || e != api.OK {
			t.Errorf("Root(%q): %d, %d, want %d", x.l, root, e, x.want)
		}
	}
	books(func(l []string) {
		given := slices.Clone(l)
		if root, e := book.Root(l); root != wantRoot(l) || e != api.OK || !slices.Equal(l, given) {
			t.Errorf("Root(%q): %d, %d, want %d", given, root, e, wantRoot(given))
		}
	})
}

// TestRootByParts tests the root of a list with the exported functions of which
// the chapter makes it.
func TestRootByParts(t *testing.T) {
	books(func(l []string) {
		root, _ := book.Root(l)
		if len(l) == 1 {
			if leaf, e := book.Leaf(l[0]); leaf != root || e != api.OK {
				t.Errorf("Leaf(%q): %d, %d, want %d", l[0], leaf, e, root)
			}
		}
		if len(l) < 2 {
			return
		}
		k, _ := book.Split(len(l))
		first, _ := book.Root(l[:k])
		others, _ := book.Root(l[k:])
		if sum, e := book.Join(first, others); sum != root || e != api.OK {
			t.Errorf("the root of %q is %d, its parts join to %d, %d", l, root, sum, e)
		}
	})
}

func TestCommon(t *testing.T) {
	full := numbered(64)
	for _, x := range []struct {
		a, b []string
		want int
	}{
		{nil, nil, 0}, {nil, []string{}, 0}, {nil, full, 0}, {full, nil, 0}, {full, full, 64}, {full[:63], full, 63}, {full, full[:1], 1},
		{[]string{"a"}, []string{"a"}, 1}, {[]string{"a"}, []string{"A"}, 0}, {[]string{"a"}, []string{"a "}, 0},
		{[]string{"a", "b", "c"}, []string{"a", "x", "c"}, 1}, {[]string{"x", "b", "c"}, []string{"a", "b", "c"}, 0},
		{[]string{"a", "a", "a"}, []string{"a", "a"}, 2},
	} {
		if n, e := book.Common(x.a, x.b); n != x.want || e != api.OK {
			t.Errorf("Common(%q, %q): %d, %d, want %d", x.a, x.b, n, e, x.want)
		}
	}
	for differs := range 64 {
		other := slices.Clone(full)
		other[differs] = "other"
		if n, e := book.Common(full, other); n != differs || e != api.OK {
			t.Errorf("Common of lists that differ at %d: %d, %d", differs, n, e)
		}
		if n, e := book.Common(other[:differs+1], full); n != differs || e != api.OK {
			t.Errorf("Common of a list that ends behind %d: %d, %d", differs, n, e)
		}
	}
}
