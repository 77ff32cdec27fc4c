package whistle_test

import (
	"math/rand/v2"
	"slices"
	"strings"
	"testing"

	"wigeon/api"
	"wigeon/whistle"
)

// wrongLengths returns lists that are no lengths.
func wrongLengths() [][]int {
	l := [][]int{
		nil, {}, {0}, {13}, {12, 13}, {0, 1}, {1, 0}, {3, 3, 0}, {1, 1, 0}, {1, 1, 1, 13}, {1, -1}, {-1, -1, -1, -1},
		slices.Repeat([]int{12}, 13), slices.Repeat([]int{1}, 13), make([]int, 13), slices.Repeat([]int{12}, 100000),
	}
	for _, n := range notNumbers {
		if n != 12 {
			l = append(l, []int{n}, []int{3, n}, []int{n, 3})
		}
	}
	return l
}

// someLengths returns lengths that are drawn, mostly such that there is a code.
func someLengths(r *rand.Rand) []int {
	l := make([]int, r.IntN(12)+1)
	for i := range l {
		l[i] = min(r.IntN(7)+r.IntN(7)+1, 12)
	}
	return l
}

func TestFill(t *testing.T) {
	for _, c := range []struct {
		lengths []int
		want    api.Rat
	}{
		{[]int{1, 2, 3}, api.Rat{Num: 7, Den: 8}},
		{[]int{1}, api.Rat{Num: 1, Den: 2}},
		{[]int{12}, api.Rat{Num: 1, Den: 4096}},
		{[]int{1, 1}, api.Rat{Num: 1, Den: 1}},
		{slices.Repeat([]int{1}, 12), api.Rat{Num: 6, Den: 1}},
		{slices.Repeat([]int{12}, 12), api.Rat{Num: 3, Den: 1024}},
		{[]int{1, 2, 3, 4, 5, 6, 7, 8, 9, 10, 11, 12}, api.Rat{Num: 4095, Den: 4096}},
	} {
		if r, e := whistle.Fill(c.lengths); r != c.want || e != api.OK {
			t.Errorf("Fill(%v): %v, %d, want %v", c.lengths, r, e, c.want)
		}
	}
	r := rand.New(rand.NewPCG(5, 1))
	for range 2000 {
		lengths := someLengths(r)
		given := slices.Clone(lengths)
		if f, e := whistle.Fill(lengths); f != wantFill(given) || e != api.OK || !slices.Equal(lengths, given) {
			t.Fatalf("Fill(%v): %v, %d, want %v", given, f, e, wantFill(given))
		}
	}
	for _, lengths := range wrongLengths() {
		if f, e := whistle.Fill(lengths); f != (api.Rat{}) || e != api.ErrArg {
			t.Errorf("Fill of %v: %v, %d", lengths[:min(len(lengths), 13)], f, e)
		}
	}
}

func TestKraft(t *testing.T) {
	for _, c := range []struct {
		code []string
		want api.Rat
	}{
		{[]string{".", "-", ".."}, api.Rat{Num: 5, Den: 4}},
		{first(), api.Rat{Num: 1, Den: 1}},
		{allDots(), api.Rat{Num: 4095, Den: 4096}},
		{[]string{"-"}, api.Rat{Num: 1, Den: 2}},
		{textsUpTo(3)[1:13], api.Rat{Num: 11, Den: 4}},
	} {
		if r, e := whistle.Kraft(c.code); r != c.want || e != api.OK {
			t.Errorf("Kraft(%q): %v, %d, want %v", c.code, r, e, c.want)
		}
	}
	someCodes(500, 12, 12, func(code []string, _ *rand.Rand) {
		if r, e := whistle.Kraft(code); r != wantFill(lengthsOf(code)) || e != api.OK {
			t.Fatalf("Kraft(%q): %v, %d, want %v", code, r, e, wantFill(lengthsOf(code)))
		}
	})
}

// wantFromLengths returns the code for lengths, by the chapter's words.
func wantFromLengths(lengths []int) []string {
	code := make([]string, len(lengths))
	before := ""
	for n := 1; n <= 12; n++ {
		for i, length := range lengths {
			if length != n {
				continue
			}
			if before == "" {
				code[i] = dots(n)
			} else {
				code[i] = addOne(before)
				code[i] += dots(n - len(code[i]))
			}
			before = code[i]
		}
	}
	return code
}

// addOne returns the signal after one: its last short note becomes long, and the
// long notes behind it become short.
func addOne(signal string) string {
	at := strings.LastIndexByte(signal, '.')
	return signal[:at] + "-" + dots(len(signal)-at-1)
}

func TestFromLengths(t *testing.T) {
	for _, c := range []struct {
		lengths []int
		want    []string
	}{
		{[]int{2, 1, 2}, []string{"-.", ".", "--"}},
		{[]int{3, 1}, []string{"-..", "."}},
		{[]int{12}, []string{dots(12)}},
		{[]int{1, 1}, []string{".", "-"}},
		{[]int{2, 3, 2, 3}, []string{"..", "-..", ".-", "-.-"}},
		{[]int{4, 3, 2, 1}, []string{"---.", "--.", "-.", "."}},
		{[]int{1, 12, 12}, []string{".", "-...........", "-..........-"}},
	} {
		if l, e := whistle.FromLengths(c.lengths); !slices.Equal(l, c.want) || e != api.OK {
			t.Errorf("FromLengths(%v): %q, %d, want %q", c.lengths, l, e, c.want)
		}
	}
	for _, lengths := range [][]int{
		{1, 1, 12}, {12, 1, 1}, {1, 1, 1}, {2, 2, 2, 2, 12}, {1, 2, 3, 4, 5, 6, 7, 8, 9, 10, 10, 12}, slices.Repeat([]int{1}, 12), slices.Repeat([]int{3}, 9),
	} {
		if l, e := whistle.FromLengths(lengths); len(l) != 0 || e != api.ErrRule {
			t.Errorf("FromLengths(%v): %q, %d", lengths, l, e)
		}
	}
	for _, lengths := range wrongLengths() {
		if l, e := whistle.FromLengths(lengths); len(l) != 0 || e != api.ErrArg {
			t.Errorf("FromLengths of %v: %q, %d", lengths[:min(len(lengths), 13)], l, e)
		}
	}
}

func TestFromSomeLengths(t *testing.T) {
	full, made := 0, 0
	look := func(lengths []int) {
		given := slices.Clone(lengths)
		code, e := whistle.FromLengths(lengths)
		if !slices.Equal(lengths, given) {
			t.Fatalf("%v have become %v", given, lengths)
		}
		if f := wantFill(lengths); f.Num > f.Den {
			full++
			if len(code) != 0 || e != api.ErrRule {
				t.Fatalf("FromLengths(%v): %q, %d", lengths, code, e)
			}
			return
		}
		made++
		if want := wantFromLengths(lengths); !slices.Equal(code, want) || e != api.OK {
			t.Fatalf("FromLengths(%v): %q, %d, want %q", lengths, code, e, want)
		}
		if !slices.Equal(lengthsOf(code), lengths) || !isPrefix(t, code) {
			t.Fatalf("FromLengths(%v): %q has not the lengths, or not IsPrefix", lengths, code)
		}
	}
	for n := range 6 * 6 * 6 * 6 {
		lengths := []int{n%6 + 1, n/6%6 + 1, n/36%6 + 1, n/216 + 1}
		for count := 1; count <= 4; count++ {
			look(lengths[:count])
		}
	}
	r := rand.New(rand.NewPCG(5, 2))
	for range 3000 {
		look(someLengths(r))
	}
	if full < 300 || made < 300 {
		t.Errorf("%d lengths have no code, %d have one", full, made)
	}
}
