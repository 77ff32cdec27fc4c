package book

import "wigeon/api"

// Growth returns the proof of growth from m pages to all pages of a list.
func Growth(l []string, m int) ([]int, api.Errno) {
	if e := ValidatePages(l); e != api.OK {
		return nil, e
	}
	if m < 1 || m > len(l) {
		return nil, api.ErrArg
	}
	return growthOf(sumsOf(l), m, true), api.OK
}

// Unfold returns the old root, of m pages, and the new root, of n pages, that
// follow from a proof of growth.
func Unfold(m, n int, old int, proof []int) (int, int, api.Errno) {
	if m < 1 || m > n || n > api.MaxPages || !isSum(old) || !areSums(proof) {
		return 0, 0, api.ErrArg
	}
	if len(proof) != growthSize(m, n, true) {
		return 0, 0, api.ErrProof
	}
	var unfold func(m, n int, isOld bool, proof []int) (int, int)
	unfold = func(m, n int, isOld bool, proof []int) (int, int) {
		if m == n && isOld {
			return old, old
		}
		last := len(proof) - 1
		if m == n {
			return proof[last], proof[last]
		}
		k := split(n)
		if m <= k {
			before, after := unfold(m, k, isOld, proof[:last])
			return before, join(after, proof[last])
		}
		before, after := unfold(m-k, n-k, false, proof[:last])
		return join(proof[last], before), join(proof[last], after)
	}
	before, after := unfold(m, n, true, proof)
	return before, after, api.OK
}

// CheckGrowth returns api.OK if a proof proves that a book with an old root and
// m pages has grown to one with a root and n pages.
func CheckGrowth(old, root int, m, n int, proof []int) api.Errno {
	before, after, e := Unfold(m, n, old, proof)
	if e != api.OK {
		return e
	}
	if !isSum(root) {
		return api.ErrArg
	}
	if before != old || after != root {
		return api.ErrProof
	}
	return api.OK
}

// growthOf returns the proof of growth from the first m sums to all of them;
// isOld says that these m sums are all that the old book has.
func growthOf(sums []int, m int, isOld bool) []int {
	if m == len(sums) && isOld {
		return nil
	}
	if m == len(sums) {
		return []int{rootOf(sums)}
	}
	first, others := halves(sums)
	if m <= len(first) {
		return append(growthOf(first, m, isOld), rootOf(others))
	}
	return append(growthOf(others, m-len(first), false), rootOf(first))
}

// growthSize returns how many sums growthOf has for n sums.
func growthSize(m, n int, isOld bool) int {
	if m == n && isOld {
		return 0
	}
	if m == n {
		return 1
	}
	k := split(n)
	if m <= k {
		return growthSize(m, k, isOld) + 1
	}
	return growthSize(m-k, n-k, false) + 1
}
