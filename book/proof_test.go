package book_test

import (
	"math"
	"math/rand/v2"
	"slices"
	"testing"

	"wigeon/api"
	"wigeon/book"
)

// TestProofs tests, for books of all lengths and all of their pages, that the
// proof is right, that it proves the page, and that it proves nothing else.
func TestProofs(t *testing.T) {
	books(func(l []string) {
		given := slices.Clone(l)
		root := wantRoot(l)
		for i, page := range l {
			proof, e := book.Proof(l, i)
			if !slices.Equal(proof, wantProof(given, i)) || e != api.OK {
				t.Fatalf("Proof(%q, %d): %d, %d, want %d", given, i, proof, e, wantProof(given, i))
			}
			if n, e := book.Depth(i, len(l)); n != len(proof) || e != api.OK {
				t.Fatalf("Depth(%d, %d): %d, %d, want %d", i, len(l), n, e, len(proof))
			}
			if x, e := book.Climb(wantLeaf(page), i, len(l), proof); x != root || e != api.OK {
				t.Fatalf("Climb(%d, %d, %d, %d): %d, %d, want %d", wantLeaf(page), i, len(l), proof, x, e, root)
			}
			if e := book.CheckPage(root, page, i, len(l), proof); e != api.OK {
				t.Fatalf("CheckPage(%d, %q, %d, %d, %d): %d", root, page, i, len(l), proof, e)
			}
			checkSpoiled(t, root, page, i, len(l), proof)
			if !slices.Equal(l, given) || !slices.Equal(proof, wantProof(given, i)) {
				t.Fatalf("the pages %q or the proof %d were changed", l, proof)
			}
		}
	})
}

// checkSpoiled tests that a right proof is refused if something of it is changed.
func checkSpoiled(t *testing.T, root int, page string, i, n int, proof []int) {
	t.Helper()
	if e := book.CheckPage((root+1)%api.Prime, page, i, n, proof); e != api.ErrProof {
		t.Fatalf("CheckPage of %d of %d with another root: %d", i, n, e)
	}
	other := "x" + page[1:]
	if other == page {
		other = "y" + page[1:]
	}
	if e := book.CheckPage(root, other, i, n, proof); e != api.ErrProof {
		t.Fatalf("CheckPage of %d of %d with another page: %d", i, n, e)
	}
	for at := range proof {
		other := slices.Clone(proof)
		other[at] = (other[at] + 1) % api.Prime
		if e := book.CheckPage(root, page, i, n, other); e != api.ErrProof {
			t.Fatalf("CheckPage of %d of %d with another sum %d: %d", i, n, at, e)
		}
		less := slices.Delete(slices.Clone(proof), at, at+1)
		if e := book.CheckPage(root, page, i, n, less); e != api.ErrProof {
			t.Fatalf("CheckPage of %d of %d without the sum %d: %d", i, n, at, e)
		}
		other[at] = -1
		if e := book.CheckPage(root, page, i, n, other); e != api.ErrArg {
			t.Fatalf("CheckPage of %d of %d with no sum at %d: %d", i, n, at, e)
		}
	}
	more := append(slices.Clone(proof), 0)
	if e := book.CheckPage(root, page, i, n, more); e != api.ErrProof {
		t.Fatalf("CheckPage of %d of %d with one more sum: %d", i, n, e)
	}
	if x, e := book.Climb(wantLeaf(page), i, n, more); x != 0 || e != api.ErrProof {
		t.Fatalf("Climb from %d of %d with one more sum: %d, %d", i, n, x, e)
	}
}

// TestClimbOfAnySums tests Climb with sums that are of no book.
func TestClimbOfAnySums(t *testing.T) {
	r := rand.New(rand.NewPCG(9, 4))
	for n := 1; n <= 64; n++ {
		for i := range n {
			sums, _ := book.Depth(i, n)
			leaf, proof := r.IntN(api.Prime), make([]int, sums)
			for at := range proof {
				proof[at] = r.IntN(api.Prime)
			}
			want := wantClimb(leaf, i, n, proof)
			if x, e := book.Climb(leaf, i, n, proof); x != want || e != api.OK {
				t.Fatalf("Climb(%d, %d, %d, %d): %d, %d, want %d", leaf, i, n, proof, x, e, want)
			}
		}
	}
}

func TestProof(t *testing.T) {
	for _, x := range []struct {
		l    []string
		i    int
		want []int
	}{
		{[]string{"a"}, 0, nil},
		{[]string{"a", "b"}, 0, []int{356}},
		{[]string{"a", "b"}, 1, []int{355}},
		{[]string{"a", "b", "c"}, 2, []int{wantJoin(355, 356)}},
		{[]string{"a", "b", "c"}, 0, []int{356, 357}},
		{[]string{"a", "b", "c"}, 1, []int{355, 357}},
		{[]string{"a", "b", "c", "d", "e"}, 4, []int{wantJoin(wantJoin(355, 356), wantJoin(357, 358))}},
		{[]string{"a", "b", "c", "d", "e"}, 2, []int{358, wantJoin(355, 356), 359}},
	} {
		if proof, e := book.Proof(x.l, x.i); !slices.Equal(proof, x.want) || e != api.OK {
			t.Errorf("Proof(%q, %d): %d, %d, want %d", x.l, x.i, proof, e, x.want)
		}
	}
	for n := range 65 {
		for _, i := range []int{-1, n, n + 1, 64, math.MinInt, math.MaxInt} {
			if proof, e := book.Proof(numbered(n), i); len(proof) != 0 || e != api.ErrNone {
				t.Errorf("Proof of %d of %d pages: %d, %d", i, n, proof, e)
			}
		}
	}
}

func TestDepth(t *testing.T) {
	for _, x := range []struct{ i, n, want int }{
		{0, 1, 0}, {0, 2, 1}, {1, 2, 1}, {0, 3, 2}, {1, 3, 2}, {2, 3, 1}, {4, 5, 1}, {3, 5, 3}, {5, 6, 2}, {6, 7, 2}, {0, 64, 6}, {63, 64, 6}, {62, 63, 5}, {32, 33, 1},
	} {
		if n, e := book.Depth(x.i, x.n); n != x.want || e != api.OK {
			t.Errorf("Depth(%d, %d): %d, %d, want %d", x.i, x.n, n, e, x.want)
		}
	}
	for _, x := range placeErrors {
		if n, e := book.Depth(x.i, x.n); n != 0 || e != x.want {
			t.Errorf("Depth(%d, %d): %d, %d, want %d", x.i, x.n, n, e, x.want)
		}
	}
}

// placeErrors are numbers of pages that there can't be, and their errors.
var placeErrors = []struct {
	i, n int
	want api.Errno
}{
	{0, 0, api.ErrArg}, {0, -1, api.ErrArg}, {0, 65, api.ErrArg}, {-1, 0, api.ErrArg}, {-1, 65, api.ErrArg}, {65, 65, api.ErrArg},
	{math.MaxInt, math.MaxInt, api.ErrArg}, {math.MinInt, math.MinInt, api.ErrArg},
	{-1, 1, api.ErrNone}, {1, 1, api.ErrNone}, {3, 3, api.ErrNone}, {64, 64, api.ErrNone}, {-1, 64, api.ErrNone},
	{math.MaxInt, 64, api.ErrNone}, {math.MinInt, 1, api.ErrNone},
}

// TestErrorsOfClimb tests the errors of Climb and CheckPage, and which one comes
// first.
func TestErrorsOfClimb(t *testing.T) {
	for _, x := range placeErrors {
		for _, leaf := range []int{355, -1} {
			for _, proof := range [][]int{nil, {0}, {-1}, make([]int, 70)} {
				if root, e := book.Climb(leaf, x.i, x.n, proof); root != 0 || e != x.want {
					t.Errorf("Climb(%d, %d, %d, %d): %d, %d, want %d", leaf, x.i, x.n, proof, root, e, x.want)
				}
				if e := book.CheckPage(leaf, "a", x.i, x.n, proof); e != x.want {
					t.Errorf("CheckPage(%d, a, %d, %d, %d): %d, want %d", leaf, x.i, x.n, proof, e, x.want)
				}
				// A text that is no page comes first.
				if e := book.CheckPage(leaf, "", x.i, x.n, proof); e != api.ErrArg {
					t.Errorf("CheckPage(%d, , %d, %d, %d): %d", leaf, x.i, x.n, proof, e)
				}
			}
		}
	}
	for _, bad := range notSums {
		// What is no sum comes before a proof of another length.
		for _, proof := range [][]int{nil, {0}, {0, 0}} {
			if root, e := book.Climb(bad, 0, 2, proof); root != 0 || e != api.ErrArg {
				t.Errorf("Climb(%d, 0, 2, %d): %d, %d", bad, proof, root, e)
			}
		}
		for _, proof := range [][]int{{bad}, {0, bad}, {bad, 0}, {0, 0, bad}} {
			if root, e := book.Climb(0, 0, 2, proof); root != 0 || e != api.ErrArg {
				t.Errorf("Climb(0, 0, 2, %d): %d, %d", proof, root, e)
			}
			if e := book.CheckPage(0, "a", 0, 2, proof); e != api.ErrArg {
				t.Errorf("CheckPage(0, a, 0, 2, %d): %d", proof, e)
			}
		}
		// A proof of another length comes before what is no root.
		if e := book.CheckPage(bad, "a", 0, 2, nil); e != api.ErrProof {
			t.Errorf("CheckPage(%d, a, 0, 2, nil): %d", bad, e)
		}
		if e := book.CheckPage(bad, "a", 0, 1, nil); e != api.ErrArg {
			t.Errorf("CheckPage(%d, a, 0, 1, nil): %d", bad, e)
		}
	}
	// The greatest sum is one; a page alone is proved by its own sum.
	if root, e := book.Climb(api.Prime-1, 0, 1, nil); root != api.Prime-1 || e != api.OK {
		t.Errorf("Climb of the greatest sum: %d, %d", root, e)
	}
	if root, e := book.Climb(0, 1, 2, []int{api.Prime - 1}); root != wantJoin(api.Prime-1, 0) || e != api.OK {
		t.Errorf("Climb with the greatest sum: %d, %d", root, e)
	}
	if e := book.CheckPage(355, "a", 0, 1, []int{}); e != api.OK {
		t.Errorf("CheckPage of a page alone: %d", e)
	}
}
