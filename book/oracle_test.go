package book_test

import (
	"math"
	"math/big"
	"math/rand/v2"
	"regexp"
	"slices"
	"strconv"
	"strings"
	"testing"

	"wigeon/api"
	"wigeon/book"
)

// notSums are numbers that are no sums.
var notSums = []int{-1, api.Prime, api.Prime + 1, math.MinInt, math.MaxInt}

// longPage is a page with as many bytes as one may have.
var longPage = strings.Repeat("~", 60)

// pageErrors are lists that are no pages, and their errors.
var pageErrors = []struct {
	l    []string
	want api.Errno
}{
	{slices.Repeat([]string{"a"}, 65), api.ErrLarge},
	{make([]string, 65), api.ErrLarge},
	{make([]string, 1000), api.ErrLarge},
	{[]string{""}, api.ErrArg},
	{append(numbered(63), ""), api.ErrArg},
	{append([]string{"a\n"}, numbered(63)...), api.ErrArg},
	{[]string{"a", longPage + "~"}, api.ErrArg},
	{[]string{"a", "\x7f", "b"}, api.ErrArg},
}

// numbered returns n pages of which no two are equal.
func numbered(n int) []string {
	var l []string
	for i := range n {
		l = append(l, "page "+strconv.Itoa(i))
	}
	return l
}

// somePages returns n pages of all lengths and bytes; r decides which.
func somePages(r *rand.Rand, n int) []string {
	var l []string
	for range n {
		page := make([]byte, r.IntN(60)+1)
		for i := range page {
			page[i] = byte(r.IntN(95) + 32)
		}
		l = append(l, string(page))
	}
	return l
}

// books calls look with lists of pages of all lengths.
func books(look func(l []string)) {
	r := rand.New(rand.NewPCG(9, 1))
	for n := range 65 {
		look(numbered(n))
		look(slices.Repeat([]string{" "}, n))
		look(somePages(r, n))
	}
}

// wantLeaf is the sum of a page as one sum of products, without a remainder
// before the end.
func wantLeaf(page string) int {
	sum := big.NewInt(1)
	for _, b := range []byte(page) {
		sum.Mul(sum, big.NewInt(257))
		sum.Add(sum, big.NewInt(int64(b)+1))
	}
	return int(sum.Mod(sum, big.NewInt(2147483647)).Int64())
}

func wantLeaves(l []string) []int {
	var sums []int
	for _, page := range l {
		sums = append(sums, wantLeaf(page))
	}
	return sums
}

func wantJoin(x, y int) int {
	a := new(big.Int).Mul(big.NewInt(int64(x)), big.NewInt(48271))
	b := new(big.Int).Mul(big.NewInt(int64(y)), big.NewInt(16807))
	a.Add(a, b).Add(a, big.NewInt(1))
	return int(a.Mod(a, big.NewInt(2147483647)).Int64())
}

// levels returns the tree of sums from the leaves upward, each level made of the
// pairs of the one below; a last sum without another goes up as it is.
func levels(sums []int) [][]int {
	l := [][]int{sums}
	for len(sums) > 1 {
		var above []int
		for i := 0; i < len(sums); i += 2 {
			if i+1 < len(sums) {
				above = append(above, wantJoin(sums[i], sums[i+1]))
			} else {
				above = append(above, sums[i])
			}
		}
		l = append(l, above)
		sums = above
	}
	return l
}

func wantRoot(l []string) int {
	if len(l) == 0 {
		return 0
	}
	tree := levels(wantLeaves(l))
	return tree[len(tree)-1][0]
}

// wantProof is the proof of a page by the levels of the tree: the neighbor of
// each sum on the way up.
func wantProof(l []string, i int) []int {
	var proof []int
	for _, level := range levels(wantLeaves(l)) {
		if i^1 < len(level) {
			proof = append(proof, level[i^1])
		}
		i /= 2
	}
	return proof
}

// wantClimb goes up the levels with a proof that has as many sums as it needs.
func wantClimb(leaf, i, n int, proof []int) int {
	for n > 1 {
		if i%2 == 1 {
			leaf = wantJoin(proof[0], leaf)
			proof = proof[1:]
		} else if i+1 < n {
			leaf = wantJoin(leaf, proof[0])
			proof = proof[1:]
		}
		i /= 2
		n = (n + 1) / 2
	}
	return leaf
}

// wantGrowth is the proof of growth by the levels of the tree: from the greatest
// whole part with which m pages end, the neighbors on its way up.
func wantGrowth(l []string, m int) []int {
	if m == len(l) {
		return nil
	}
	at := m - 1
	var proof []int
	isBegun := false
	for _, level := range levels(wantLeaves(l)) {
		if !isBegun && at%2 == 0 {
			isBegun = true
			if at > 0 {
				proof = append(proof, level[at])
			}
		}
		if isBegun && at^1 < len(level) {
			proof = append(proof, level[at^1])
		}
		at /= 2
	}
	return proof
}

// wantUnfold follows a proof of growth from below by the bits of the two last
// numbers, and reports whether the proof has as many sums as it needs.
func wantUnfold(m, n, old int, proof []int) (int, int, bool) {
	if m == n {
		return old, old, len(proof) == 0
	}
	if m&(m-1) == 0 {
		proof = append([]int{old}, proof...)
	}
	a, b := m-1, n-1
	for a%2 == 1 {
		a, b = a/2, b/2
	}
	if len(proof) == 0 {
		return 0, 0, false
	}
	before, after := proof[0], proof[0]
	for _, x := range proof[1:] {
		if b == 0 {
			return 0, 0, false
		}
		if a%2 == 1 || a == b {
			before, after = wantJoin(x, before), wantJoin(x, after)
			for a%2 == 0 && a > 0 {
				a, b = a/2, b/2
			}
		} else {
			after = wantJoin(after, x)
		}
		a, b = a/2, b/2
	}
	return before, after, b == 0
}

var (
	headForm = regexp.MustCompile(`^pages (0|[1-9][0-9]*) (0|[1-9][0-9]*)\n`)
	pageForm = regexp.MustCompile(`^[ -~]{1,60}\n`)
)

// wantRead reads a book by the forms of its lines. It returns the number of
// pages that the head asks for, too.
func wantRead(text string) ([]string, string, int, api.Errno) {
	words := headForm.FindStringSubmatch(text)
	if words == nil {
		return nil, "", 0, api.ErrSyntax
	}
	n, err := strconv.ParseUint(words[1], 10, 64)
	root, err2 := strconv.ParseUint(words[2], 10, 64)
	if err != nil || err2 != nil || n > 64 || root > 2147483646 {
		return nil, "", 0, api.ErrSyntax
	}
	rest := text[len(words[0]):]
	var pages []string
	for range n {
		found := pageForm.FindString(rest)
		if found == "" {
			return pages, rest, int(n), api.OK
		}
		pages = append(pages, found[:len(found)-1])
		rest = rest[len(found):]
	}
	if wantRoot(pages) != int(root) {
		return nil, "", 0, api.ErrProof
	}
	return pages, rest, int(n), api.OK
}

// write is Write of pages.
func write(t *testing.T, l []string) string {
	t.Helper()
	text, e := book.Write(l)
	if e != api.OK {
		t.Fatalf("Write(%q): %d", l, e)
	}
	return text
}
