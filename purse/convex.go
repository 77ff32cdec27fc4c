package purse

import "wigeon/api"

// IsSuper reports whether groups without a common player never lose together.
func IsSuper(v []int) (bool, api.Errno) {
	return gainsTogether(v, func(g, h int) bool { return g&h == 0 })
}

// IsConvex reports whether a player adds the more, the greater the group is to
// which it comes.
func IsConvex(v []int) (bool, api.Errno) {
	return gainsTogether(v, func(g, h int) bool { return true })
}

// gainsTogether reports whether, for all pairs of groups that are asked for, the
// union and the common part have together at least the value that the groups have.
func gainsTogether(v []int, asked func(g, h int) bool) (bool, api.Errno) {
	if e := Validate(v); e != api.OK {
		return false, e
	}
	for g := range v {
		for h := range v {
			if asked(g, h) && v[g|h]+v[g&h] < v[g]+v[h] {
				return false, api.OK
			}
		}
	}
	return true, api.OK
}
