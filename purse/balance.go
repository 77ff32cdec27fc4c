package purse

import "wigeon/api"

// maxParts is the greatest number of groups of a balance, and maxWeight the
// greatest weight of one.
const (
	maxParts  = 32
	maxWeight = 1000
)

// CheckBalance returns api.OK if a balance is against a purse.
func CheckBalance(v []int, b api.Balance) api.Errno {
	if e := Validate(v); e != api.OK {
		return e
	}
	if b.Den < 1 || b.Den > maxDen || !areParts(b.Parts, v) || !isBalanced(b, players(v)) {
		return api.ErrArg
	}
	earned := 0
	for _, part := range b.Parts {
		earned += part.Weight * v[part.Group]
	}
	if earned <= b.Den*v[whole(v)] {
		return api.ErrProof
	}
	return api.OK
}

// Against returns a balance that is against a purse, and whether there is one.
func Against(v []int) (b api.Balance, found bool, e api.Errno) {
	if e := Validate(v); e != api.OK {
		return api.Balance{}, false, e
	}
	// The panic that stops the search has the balance that was found.
	defer func() {
		b, found = recover().(api.Balance)
	}()
	search(v, func(s *stand) {
		if s.isAgainst() {
			panic(s.balance())
		}
	})
	return api.Balance{}, false, api.OK
}

// areParts reports whether the parts of a balance, each by itself, are right.
func areParts(parts []api.Part, v []int) bool {
	if len(parts) > maxParts {
		return false
	}
	for _, part := range parts {
		if part.Group < 1 || part.Group > whole(v) || part.Weight < 1 || part.Weight > maxWeight {
			return false
		}
	}
	return true
}

// isBalanced reports whether each of n players has as much weight as all others.
func isBalanced(b api.Balance, n int) bool {
	for p := range player(n) {
		weight := 0
		for _, part := range b.Parts {
			if p.isIn(part.Group) {
				weight += part.Weight
			}
		}
		if weight != b.Den {
			return false
		}
	}
	return true
}
