package book

import "wigeon/api"

// Proof returns the proof of the page i.
func Proof(l []string, i int) ([]int, api.Errno) {
	if e := ValidatePages(l); e != api.OK {
		return nil, e
	}
	if i < 0 || i >= len(l) {
		return nil, api.ErrNone
	}
	return proofOf(sumsOf(l), i), api.OK
}

// Depth returns how many sums the proof of the page i of n has.
func Depth(i, n int) (int, api.Errno) {
	if n < 1 || n > api.MaxPages {
		return 0, api.ErrArg
	}
	if i < 0 || i >= n {
		return 0, api.ErrNone
	}
	return depth(i, n), api.OK
}

// Climb returns the root that follows from the sum of a page and a proof.
func Climb(leaf, i, n int, proof []int) (int, api.Errno) {
	sums, e := Depth(i, n)
	if e != api.OK {
		return 0, e
	}
	if !isSum(leaf) || !areSums(proof) {
		return 0, api.ErrArg
	}
	if len(proof) != sums {
		return 0, api.ErrProof
	}
	// The way goes down to the page first, so that it comes up with the sums in
	// their order: the last one is joined at the root.
	var climb func(i, n int, proof []int) int
	climb = func(i, n int, proof []int) int {
		if n == 1 {
			return leaf
		}
		k, last := split(n), len(proof)-1
		if i < k {
			return join(climb(i, k, proof[:last]), proof[last])
		}
		return join(proof[last], climb(i-k, n-k, proof[:last]))
	}
	return climb(i, n, proof), api.OK
}

// CheckPage returns api.OK if a proof proves that a page is the page i of n.
func CheckPage(root int, page string, i, n int, proof []int) api.Errno {
	leaf, e := Leaf(page)
	if e != api.OK {
		return e
	}
	reached, e := Climb(leaf, i, n, proof)
	if e != api.OK {
		return e
	}
	if !isSum(root) {
		return api.ErrArg
	}
	if reached != root {
		return api.ErrProof
	}
	return api.OK
}

func proofOf(sums []int, i int) []int {
	if len(sums) == 1 {
		return nil
	}
	first, others := halves(sums)
	if i < len(first) {
		return append(proofOf(first, i), rootOf(others))
	}
	return append(proofOf(others, i-len(first)), rootOf(first))
}

func depth(i, n int) int {
	if n == 1 {
		return 0
	}
	k := split(n)
	if i < k {
		return depth(i, k) + 1
	}
	return depth(i-k, n-k) + 1
}
