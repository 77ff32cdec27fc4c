package ring

import (
	"cmp"
	"slices"

	"wigeon/api"
)

// ValidateBlocks returns api.OK if a list is one of blocks of which no two have
// a ring in common.
func ValidateBlocks(l []api.Block) api.Errno {
	if len(l) > api.MaxBlocks {
		return api.ErrLarge
	}
	for _, b := range l {
		if e := validateBlock(b); e != api.OK {
			return e
		}
	}
	for i, b := range l {
		for _, c := range l[:i] {
			if meet(b, c) {
				return api.ErrTwice
			}
		}
	}
	return api.OK
}

// Total returns the number of rings in blocks.
func Total(l []api.Block) (int, api.Errno) {
	if e := ValidateBlocks(l); e != api.OK {
		return 0, e
	}
	total := 0
	for _, b := range l {
		total += b.To - b.From + 1
	}
	return total, api.OK
}

// Owner returns the number of the block that has a ring, and whether there is one.
func Owner(l []api.Block, ring string) (int, bool, api.Errno) {
	if e := ValidateBlocks(l); e != api.OK {
		return 0, false, e
	}
	series, number, e := Split(ring)
	if e != api.OK {
		return 0, false, e
	}
	for i, b := range l {
		if b.Series == series && b.From <= number && number <= b.To {
			return i, true, api.OK
		}
	}
	return 0, false, api.OK
}

// Join returns blocks in ascending order, those of a series that follow each
// other without a gap brought together.
func Join(l []api.Block) ([]api.Block, api.Errno) {
	if e := ValidateBlocks(l); e != api.OK {
		return nil, e
	}
	sorted := slices.Clone(l)
	slices.SortFunc(sorted, compareBlocks)
	var joined []api.Block
	for _, b := range sorted {
		last := len(joined) - 1
		if last >= 0 && joined[last].Series == b.Series && joined[last].To+1 == b.From {
			joined[last].To = b.To
			continue
		}
		joined = append(joined, b)
	}
	return joined, api.OK
}

func validateBlock(b api.Block) api.Errno {
	if !isSeries(b.Series) {
		return api.ErrSyntax
	}
	if b.From < 0 || b.From > b.To || b.To > api.MaxNumber {
		return api.ErrArg
	}
	return api.OK
}

func meet(a, b api.Block) bool {
	return a.Series == b.Series && a.From <= b.To && b.From <= a.To
}

func compareBlocks(a, b api.Block) int {
	return cmp.Or(cmp.Compare(a.Series, b.Series), cmp.Compare(a.From, b.From), cmp.Compare(a.To, b.To))
}
