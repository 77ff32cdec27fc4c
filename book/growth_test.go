package book_test

import (
	"math"
	"math/rand/v2"
	"slices"
	"testing"

	"wigeon/api"
	"wigeon/book"
)

// TestGrowths tests, for books of all lengths and all of their beginnings, that
// the proof of growth is right, that it proves the growth, and nothing else.
func TestGrowths(t *testing.T) {
	books(func(l []string) {
		given := slices.Clone(l)
		root := wantRoot(l)
		for m := 1; m <= len(l); m++ {
			old := wantRoot(l[:m])
			proof, e := book.Growth(l, m)
			if !slices.Equal(proof, wantGrowth(given, m)) || e != api.OK {
				t.Fatalf("Growth(%q, %d): %d, %d, want %d", given, m, proof, e, wantGrowth(given, m))
			}
			before, after, e := book.Unfold(m, len(l), old, proof)
			if before != old || after != root || e != api.OK {
				t.Fatalf("Unfold(%d, %d, %d, %d): %d, %d, %d, want %d, %d", m, len(l), old, proof, before, after, e, old, root)
			}
			if e := book.CheckGrowth(old, root, m, len(l), proof); e != api.OK {
				t.Fatalf("CheckGrowth(%d, %d, %d, %d, %d): %d", old, root, m, len(l), proof, e)
			}
			checkSpoiledGrowth(t, old, root, m, len(l), proof)
			if !slices.Equal(l, given) || !slices.Equal(proof, wantGrowth(given, m)) {
				t.Fatalf("the pages %q or the proof %d were changed", l, proof)
			}
		}
	})
}

// checkSpoiledGrowth tests that a right proof of growth is refused if something
// of it is changed.
func checkSpoiledGrowth(t *testing.T, old, root, m, n int, proof []int) {
	t.Helper()
	if e := book.CheckGrowth((old+1)%api.Prime, root, m, n, proof); e != api.ErrProof {
		t.Fatalf("CheckGrowth from %d to %d with another old root: %d", m, n, e)
	}
	if e := book.CheckGrowth(old, (root+1)%api.Prime, m, n, proof); e != api.ErrProof {
		t.Fatalf("CheckGrowth from %d to %d with another root: %d", m, n, e)
	}
	for at := range proof {
		other := slices.Clone(proof)
		other[at] = (other[at] + 1) % api.Prime
		if e := book.CheckGrowth(old, root, m, n, other); e != api.ErrProof {
			t.Fatalf("CheckGrowth from %d to %d with another sum %d: %d", m, n, at, e)
		}
		less := slices.Delete(slices.Clone(proof), at, at+1)
		if e := book.CheckGrowth(old, root, m, n, less); e != api.ErrProof {
			t.Fatalf("CheckGrowth from %d to %d without the sum %d: %d", m, n, at, e)
		}
		other[at] = api.Prime
		if e := book.CheckGrowth(old, root, m, n, other); e != api.ErrArg {
			t.Fatalf("CheckGrowth from %d to %d with no sum at %d: %d", m, n, at, e)
		}
	}
	more := append(slices.Clone(proof), 0)
	if e := book.CheckGrowth(old, root, m, n, more); e != api.ErrProof {
		t.Fatalf("CheckGrowth from %d to %d with one more sum: %d", m, n, e)
	}
}

// TestUnfoldOfAnySums tests Unfold with sums that are of no book, and with proofs
// of all lengths.
func TestUnfoldOfAnySums(t *testing.T) {
	r := rand.New(rand.NewPCG(9, 5))
	for n := 1; n <= 64; n++ {
		for m := 1; m <= n; m++ {
			right := 0
			for sums := range 12 {
				old, proof := r.IntN(api.Prime), make([]int, sums)
				for at := range proof {
					proof[at] = r.IntN(api.Prime)
				}
				wantBefore, wantAfter, isRight := wantUnfold(m, n, old, proof)
				want := api.OK
				if !isRight {
					wantBefore, wantAfter, want = 0, 0, api.ErrProof
				} else {
					right++
				}
				before, after, e := book.Unfold(m, n, old, proof)
				if before != wantBefore || after != wantAfter || e != want {
					t.Fatalf("Unfold(%d, %d, %d, %d): %d, %d, %d, want %d, %d, %d", m, n, old, proof, before, after, e, wantBefore, wantAfter, want)
				}
			}
			if right != 1 {
				t.Fatalf("%d lengths are right for a proof of growth from %d to %d", right, m, n)
			}
		}
	}
}

func TestGrowth(t *testing.T) {
	l := []string{"a", "b", "c", "d", "e"}
	two, four := wantJoin(355, 356), wantJoin(wantJoin(355, 356), wantJoin(357, 358))
	for _, x := range []struct {
		n, m int
		want []int
	}{
		{1, 1, nil}, {2, 1, []int{356}}, {2, 2, nil}, {3, 1, []int{356, 357}}, {3, 2, []int{357}}, {3, 3, nil},
		{4, 1, []int{356, wantJoin(357, 358)}}, {4, 2, []int{wantJoin(357, 358)}}, {4, 3, []int{357, 358, two}}, {4, 4, nil},
		{5, 1, []int{356, wantJoin(357, 358), 359}}, {5, 3, []int{357, 358, two, 359}}, {5, 4, []int{359}}, {5, 5, nil},
	} {
		if proof, e := book.Growth(l[:x.n], x.m); !slices.Equal(proof, x.want) || e != api.OK {
			t.Errorf("Growth(%q, %d): %d, %d, want %d", l[:x.n], x.m, proof, e, x.want)
		}
	}
	// Where the old pages end in a part of the tree, the sum of this part stands
	// first.
	six := append(l, "f")
	if proof, e := book.Growth(append(six, "g"), 6); !slices.Equal(proof, []int{wantJoin(359, 360), 361, four}) || e != api.OK {
		t.Errorf("Growth from 6 to 7: %d, %d", proof, e)
	}
	for n := range 65 {
		for _, m := range []int{0, -1, n + 1, n + 2, 65, math.MinInt, math.MaxInt} {
			if proof, e := book.Growth(numbered(n), m); len(proof) != 0 || e != api.ErrArg {
				t.Errorf("Growth from %d to %d pages: %d, %d", m, n, proof, e)
			}
		}
	}
}

func TestUnfold(t *testing.T) {
	for _, x := range []struct {
		m, n, old     int
		proof         []int
		before, after int
	}{
		{1, 1, 7, nil, 7, 7},
		{64, 64, 7, nil, 7, 7},
		{1, 2, 2, []int{3}, 2, wantJoin(2, 3)},
		{2, 3, 2, []int{3}, 2, wantJoin(2, 3)},
		// The old root is computed, and the given one is not used.
		{3, 4, 7, []int{2, 3, 4}, wantJoin(4, 2), wantJoin(4, wantJoin(2, 3))},
		{3, 4, 8, []int{2, 3, 4}, wantJoin(4, 2), wantJoin(4, wantJoin(2, 3))},
		{32, 64, api.Prime - 1, []int{api.Prime - 1}, api.Prime - 1, wantJoin(api.Prime-1, api.Prime-1)},
	} {
		before, after, e := book.Unfold(x.m, x.n, x.old, x.proof)
		if before != x.before || after != x.after || e != api.OK {
			t.Errorf("Unfold(%d, %d, %d, %d): %d, %d, %d, want %d, %d", x.m, x.n, x.old, x.proof, before, after, e, x.before, x.after)
		}
	}
}

// TestErrorsOfUnfold tests the errors of Unfold and CheckGrowth, and which one
// comes first.
func TestErrorsOfUnfold(t *testing.T) {
	refuse := func(old, root, m, n int, proof []int, want api.Errno) {
		t.Helper()
		before, after, e := book.Unfold(m, n, old, proof)
		if before != 0 || after != 0 || e != want {
			t.Errorf("Unfold(%d, %d, %d, %d): %d, %d, %d, want %d", m, n, old, proof, before, after, e, want)
		}
		if e := book.CheckGrowth(old, root, m, n, proof); e != want {
			t.Errorf("CheckGrowth(%d, %d, %d, %d, %d): %d, want %d", old, root, m, n, proof, e, want)
		}
	}
	for _, x := range []struct{ m, n int }{
		{0, 0}, {0, 1}, {-1, 1}, {2, 1}, {64, 63}, {1, 65}, {65, 65}, {65, 64}, {1, 0}, {1, -1}, {-1, -1},
		{math.MinInt, 1}, {1, math.MaxInt}, {math.MaxInt, math.MaxInt}, {math.MinInt, math.MinInt}, {math.MaxInt, 1},
	} {
		for _, proof := range [][]int{nil, {0}, {-1}} {
			refuse(0, 0, x.m, x.n, proof, api.ErrArg)
		}
	}
	for _, bad := range notSums {
		refuse(bad, 0, 2, 2, nil, api.ErrArg)
		// The old root is asked where it is not used, too, and before the length.
		refuse(bad, 0, 3, 4, []int{0, 0, 0}, api.ErrArg)
		refuse(bad, 0, 2, 3, nil, api.ErrArg)
		refuse(0, bad, 2, 3, []int{bad}, api.ErrArg)
		refuse(0, 0, 2, 3, []int{0, bad}, api.ErrArg)
		refuse(0, 0, 2, 2, []int{bad}, api.ErrArg)
		// A proof of another length comes before what is no root.
		refuse(0, bad, 2, 3, nil, api.ErrProof)
		refuse(0, bad, 2, 2, []int{0}, api.ErrProof)
		if e := book.CheckGrowth(0, bad, 2, 3, []int{0}); e != api.ErrArg {
			t.Errorf("CheckGrowth to the root %d: %d", bad, e)
		}
		// The roots differ, too, but what is no root comes first.
		if e := book.CheckGrowth(1, bad, 3, 4, []int{0, 0, 0}); e != api.ErrArg {
			t.Errorf("CheckGrowth from another root to the root %d: %d", bad, e)
		}
	}
	refuse(0, 0, 1, 2, []int{0, 0}, api.ErrProof)
	refuse(0, 0, 1, 2, make([]int, 1000), api.ErrProof)
	refuse(0, 0, 3, 4, []int{0, 0}, api.ErrProof)
	refuse(0, 0, 64, 64, []int{0}, api.ErrProof)
	if e := book.CheckGrowth(5, 6, 3, 3, nil); e != api.ErrProof {
		t.Errorf("CheckGrowth of equally many pages with two roots: %d", e)
	}
	if e := book.CheckGrowth(5, 5, 3, 3, []int{}); e != api.OK {
		t.Errorf("CheckGrowth of equally many pages with one root: %d", e)
	}
}
