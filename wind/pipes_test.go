package wind_test

import (
	"slices"
	"testing"

	"wigeon/api"
	"wigeon/wind"
)

func TestValidatePipes(t *testing.T) {
	for _, l := range somePipes(100) {
		if e := wind.ValidatePipes(l); e != api.OK {
			t.Errorf("ValidatePipes(%v): %d", l, e)
		}
	}
	for _, c := range pipeErrors() {
		if e := wind.ValidatePipes(c.l); e != c.want {
			t.Errorf("ValidatePipes(%v): %d, want %d", c.l, e, c.want)
		}
	}
}

// TestErrorsOfPipes tests that the errors of pipes come before all others.
func TestErrorsOfPipes(t *testing.T) {
	for _, c := range pipeErrors() {
		for _, w := range []int{0, 32} {
			if got, e := wind.Workable(c.l, w); len(got) != 0 || e != c.want {
				t.Errorf("Workable(%v, %d): %v, %d, want %d", c.l, w, got, e, c.want)
			}
		}
		if n, e := wind.Lee(c.l); n != 0 || e != c.want {
			t.Errorf("Lee(%v): %d, %d, want %d", c.l, n, e, c.want)
		}
		for _, chosen := range [][]int{nil, {0}, {-1}, {1, 0}} {
			if is, e := wind.Covers(c.l, chosen); is || e != c.want {
				t.Errorf("Covers(%v, %v): %t, %d, want %d", c.l, chosen, is, e, c.want)
			}
			if e := wind.CheckApart(c.l, chosen); e != c.want {
				t.Errorf("CheckApart(%v, %v): %d, want %d", c.l, chosen, e, c.want)
			}
		}
		if got, found, e := wind.Fewest(c.l); len(got) != 0 || found || e != c.want {
			t.Errorf("Fewest(%v): %v, %t, %d, want %d", c.l, got, found, e, c.want)
		}
		if got, e := wind.Apart(c.l); len(got) != 0 || e != c.want {
			t.Errorf("Apart(%v): %v, %d, want %d", c.l, got, e, c.want)
		}
	}
}

func TestWorkable(t *testing.T) {
	for _, l := range somePipes(200) {
		before := slices.Clone(l)
		for w := range 32 {
			want := wantWorkable(l, w)
			if got, e := wind.Workable(l, w); !slices.Equal(got, want) || e != api.OK {
				t.Fatalf("Workable(%v, %d): %v, %d, want %v", l, w, got, e, want)
			}
		}
		checkKept(t, l, before)
	}
	for _, w := range notPoints {
		for _, l := range [][]api.Arc{nil, fourPipes()} {
			if got, e := wind.Workable(l, w); len(got) != 0 || e != api.ErrArg {
				t.Errorf("Workable(%v, %d): %v, %d", l, w, got, e)
			}
		}
	}
}

func TestLee(t *testing.T) {
	for _, l := range somePipes(400) {
		before := slices.Clone(l)
		if n, e := wind.Lee(l); n != wantLee(l) || e != api.OK {
			t.Fatalf("Lee(%v): %x, %d, want %x", l, n, e, wantLee(l))
		}
		checkKept(t, l, before)
	}
	if n, e := wind.Lee(nil); n != 0xFFFFFFFF || e != api.OK {
		t.Errorf("Lee without pipes: %x, %d", n, e)
	}
	if n, e := wind.Lee([]api.Arc{arc(24, 16)}); n != 0x00FFFF00 || e != api.OK {
		t.Errorf("Lee of a pipe over north: %x, %d", n, e)
	}
}

func TestCovers(t *testing.T) {
	for _, l := range somePipes(150) {
		before := slices.Clone(l)
		for count := range min(len(l), 4) + 1 {
			for _, chosen := range sets(0, len(l), count) {
				numbers := slices.Clone(chosen)
				if is, e := wind.Covers(l, numbers); is != wantCovers(l, chosen) || e != api.OK {
					t.Fatalf("Covers(%v, %v): %t, %d", l, chosen, is, e)
				}
				if !slices.Equal(numbers, chosen) {
					t.Fatalf("Covers has changed %v to %v", chosen, numbers)
				}
			}
		}
		checkKept(t, l, before)
	}
	for _, c := range []struct {
		chosen []int
		want   bool
	}{{nil, false}, {[]int{0, 1, 2, 3}, true}, {[]int{0, 1, 2}, false}, {[]int{3}, false}} {
		if is, e := wind.Covers(fourPipes(), c.chosen); is != c.want || e != api.OK {
			t.Errorf("Covers by %v: %t, %d", c.chosen, is, e)
		}
	}
	for _, chosen := range [][]int{{4}, {-1}, {-1, 0, 1, 2, 3}, {0, 1, 2, 3, 4}, {1, 0}, {2, 2}, {0, 1, 2, 3, 3}, {0, 1 << 32}, {-1 << 63}} {
		if is, e := wind.Covers(fourPipes(), chosen); is || e != api.ErrArg {
			t.Errorf("Covers by %v: %t, %d", chosen, is, e)
		}
	}
	if is, e := wind.Covers(nil, []int{0}); is || e != api.ErrArg {
		t.Errorf("Covers by no pipe: %t, %d", is, e)
	}
}

func TestFewest(t *testing.T) {
	for _, c := range []struct {
		l    []api.Arc
		want []int
	}{
		{nil, nil},
		{fourPipes(), []int{0, 1, 2, 3}},
		{fourPipes()[:3], nil},
		{[]api.Arc{arc(0, 31)}, nil},
		{[]api.Arc{arc(5, 32)}, []int{0}},
		{[]api.Arc{arc(0, 31), arc(5, 32), arc(6, 32)}, []int{1}},
		{append(fourPipes(), arc(0, 16)), []int{2, 3, 4}},
		// Of two pairs the first one.
		{[]api.Arc{arc(0, 31), arc(30, 2), arc(31, 1)}, []int{0, 1}},
		// The first pipe decides, not the last one.
		{[]api.Arc{arc(0, 16), arc(8, 16), arc(24, 16), arc(16, 16)}, []int{0, 3}},
		{[]api.Arc{arc(8, 16), arc(0, 16), arc(16, 16), arc(24, 16)}, []int{0, 3}},
		{append(slices.Repeat([]api.Arc{arc(3, 1)}, 8), arc(0, 16), arc(16, 16)), []int{8, 9}},
	} {
		got, found, e := wind.Fewest(c.l)
		if !slices.Equal(got, c.want) || found != (c.want != nil) || e != api.OK {
			t.Errorf("Fewest(%v): %v, %t, %d, want %v", c.l, got, found, e, c.want)
		}
	}
}

func TestFewestOfPipes(t *testing.T) {
	covering := 0
	for _, l := range somePipes(600) {
		before := slices.Clone(l)
		want, isThere := wantFewest(l)
		got, found, e := wind.Fewest(l)
		if !slices.Equal(got, want) || found != isThere || e != api.OK {
			t.Fatalf("Fewest(%v): %v, %t, %d, want %v, %t", l, got, found, e, want, isThere)
		}
		checkKept(t, l, before)
		if found {
			covering++
		}
	}
	if covering < 100 {
		t.Errorf("only %d lists of pipes cover all winds", covering)
	}
}
