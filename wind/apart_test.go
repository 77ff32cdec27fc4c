package wind_test

import (
	"slices"
	"testing"

	"wigeon/api"
	"wigeon/wind"
)

func TestCheckApart(t *testing.T) {
	everyWind := make([]int, 32)
	for w := range everyWind {
		everyWind[w] = w
	}
	for _, c := range []struct {
		l     []api.Arc
		winds []int
		want  api.Errno
	}{
		{fourPipes(), nil, api.OK},
		{fourPipes(), []int{0, 8, 16, 24}, api.OK},
		{fourPipes(), []int{7, 8, 23, 31}, api.OK},
		{fourPipes(), []int{0, 7}, api.ErrProof},
		{fourPipes(), []int{0, 8, 16, 24, 31}, api.ErrProof},
		{[]api.Arc{arc(30, 4)}, []int{1, 31}, api.ErrProof},
		{[]api.Arc{arc(30, 4)}, []int{1, 2, 29}, api.OK},
		// Winds at which no pipe can be worked are apart.
		{nil, everyWind, api.OK},
		{[]api.Arc{arc(4, 1)}, everyWind, api.OK},
		{[]api.Arc{arc(4, 2)}, everyWind, api.ErrProof},
		{fourPipes(), []int{8, 0}, api.ErrArg},
		{fourPipes(), []int{3, 3}, api.ErrArg},
		{nil, []int{0, 8, 8}, api.ErrArg},
		// What is no set comes before what is not apart.
		{fourPipes(), []int{0, 7, 7}, api.ErrArg},
		{fourPipes(), []int{0, 7, 32}, api.ErrArg},
		{nil, append(slices.Clone(everyWind), 32), api.ErrArg},
		{nil, make([]int, 100), api.ErrArg},
	} {
		if e := wind.CheckApart(c.l, c.winds); e != c.want {
			t.Errorf("CheckApart(%v, %v): %d, want %d", c.l, c.winds, e, c.want)
		}
	}
	for _, p := range notPoints {
		for _, winds := range [][]int{{p}, {0, p}, {p, 0}} {
			if e := wind.CheckApart(fourPipes(), winds); e != api.ErrArg {
				t.Errorf("CheckApart of %v: %d", winds, e)
			}
		}
	}
}

func TestCheckApartOfPipes(t *testing.T) {
	for _, l := range somePipes(64) {
		before := slices.Clone(l)
		for _, winds := range sets(0, 32, 2) {
			want := api.OK
			if !wantAreApart(l, winds) {
				want = api.ErrProof
			}
			given := slices.Clone(winds)
			if e := wind.CheckApart(l, given); e != want || !slices.Equal(given, winds) {
				t.Fatalf("CheckApart(%v, %v): %d, want %d", l, winds, e, want)
			}
		}
		checkKept(t, l, before)
	}
}

func TestApart(t *testing.T) {
	for _, c := range []struct {
		l    []api.Arc
		want int
	}{
		{nil, 0},
		{fourPipes(), 4},
		{append(fourPipes(), arc(0, 16)), 3},
		{[]api.Arc{arc(0, 32)}, 1},
		{[]api.Arc{arc(9, 1)}, 1},
		{append(fourPipes(), arc(3, 32)), 1},
		{[]api.Arc{arc(0, 3), arc(2, 3), arc(4, 3)}, 3},
		// The first wind that comes is not one of the most.
		{[]api.Arc{arc(31, 2), arc(0, 2)}, 2},
		{[]api.Arc{arc(0, 4), arc(2, 4), arc(0, 6)}, 1},
		// Pipes that meet at their ends only, and pipes that all meet: two of
		// these cover all winds, and still no two winds are apart.
		{[]api.Arc{arc(0, 12), arc(11, 12), arc(22, 11)}, 3},
		{[]api.Arc{arc(0, 22), arc(11, 22), arc(22, 22)}, 1},
		{[]api.Arc{arc(0, 1), arc(3, 1), arc(6, 1), arc(9, 1), arc(12, 1), arc(15, 1), arc(18, 1), arc(21, 1), arc(24, 1), arc(31, 1)}, 10},
	} {
		if l, e := wind.Apart(c.l); len(l) != c.want || e != api.OK {
			t.Errorf("Apart(%v): %v, %d, want %d winds", c.l, l, e, c.want)
		}
	}
}

func TestApartOfPipes(t *testing.T) {
	for _, l := range somePipes(600) {
		before := slices.Clone(l)
		winds, e := wind.Apart(l)
		if len(winds) != wantApart(l) || e != api.OK {
			t.Fatalf("Apart(%v): %v, %d, want %d winds", l, winds, e, wantApart(l))
		}
		if e := wind.CheckApart(l, winds); e != api.OK || !wantAreApart(l, winds) {
			t.Fatalf("Apart(%v): %v are not apart, %d", l, winds, e)
		}
		for _, w := range winds {
			if len(wantWorkable(l, w)) == 0 {
				t.Fatalf("Apart(%v): %v, no pipe can be worked at %d", l, winds, w)
			}
		}
		if again, _ := wind.Apart(slices.Clone(l)); !slices.Equal(again, winds) {
			t.Fatalf("Apart(%v): %v, and then %v", l, winds, again)
		}
		checkKept(t, l, before)
	}
}

// TestCoversAreNotSmaller tests S3: what covers all winds is never smaller than
// what is apart.
func TestCoversAreNotSmaller(t *testing.T) {
	equal, larger := 0, 0
	for _, l := range somePipes(2000) {
		fewest, found, e := wind.Fewest(l)
		winds, f := wind.Apart(l)
		if e != api.OK || f != api.OK || found && len(fewest) < len(winds) {
			t.Fatalf("%v: %v cover all, %v are apart, %d, %d", l, fewest, winds, e, f)
		}
		if found && len(fewest) == len(winds) {
			equal++
		} else if found {
			larger++
		}
	}
	if equal == 0 || larger == 0 {
		t.Errorf("%d covers are as large as what is apart, %d larger", equal, larger)
	}
}
