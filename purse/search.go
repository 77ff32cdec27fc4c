package purse

import (
	"cmp"
	"slices"

	"wigeon/api"
)

// stand is where a search stands: at as many chosen groups as there are players,
// of which each group is, player by player, a sum with certain parts of them. As
// the whole is such a sum without a negative part, its parts are a balance. The
// pay of the stand gives each chosen group just its value; so it gives to all
// players what the groups of the balance earn, weighted. All numbers have the
// common denominator den, which is above 0.
type stand struct {
	den      int
	chosen   []int
	parts    [][]int // parts[k][g]: which part of chosen[k] is in the sum for g
	excesses []int   // those of the pay
}

// search calls visit with one stand after another: each with another choice, none
// with less pay than the one before. At the last one no excess is above 0: its
// pay is in the core, or else its balance is against the purse. To stop it before
// its end, visit panics.
func search(v []int, visit func(s *stand)) {
	s := begin(v)
	for {
		visit(s)
		poor := slices.IndexFunc(s.excesses, func(excess int) bool { return excess > 0 })
		if poor < 0 {
			return
		}
		s.choose(poor)
	}
}

// begin returns the stand at which the players are alone.
func begin(v []int) *stand {
	s := &stand{den: 1}
	pay := api.Pay{Den: 1}
	for p := range player(players(v)) {
		parts := make([]int, len(v))
		for g := range parts {
			if p.isIn(g) {
				parts[g] = 1
			}
		}
		s.parts = append(s.parts, parts)
		s.chosen = append(s.chosen, p.alone())
		pay.Num = append(pay.Num, v[p.alone()])
	}
	s.excesses = excesses(v, pay)
	return s
}

// choose takes a group among the chosen ones, for one that is left out.
func (s *stand) choose(group int) {
	out := s.leaves(group)
	row := s.parts[out]
	for k, other := range s.parts {
		if k != out {
			s.parts[k] = s.without(other, row, group)
		}
	}
	s.excesses = s.without(s.excesses, row, group)
	s.chosen[out] = group
	s.den = row[group]
}

// leaves returns which of the chosen groups is the first to have no weight left
// when another group gets weight.
func (s *stand) leaves(group int) int {
	first := -1
	for k, row := range s.parts {
		if row[group] > 0 && (first < 0 || s.compare(k, first, group) < 0) {
			first = k
		}
	}
	return first
}

// compare compares how much weight a group can get until the chosen groups k and
// j have none left. With equal weights the smaller group comes first: as search
// takes the first poor group, too, the search can't go in a circle (Bland's rule).
func (s *stand) compare(k, j, group int) int {
	return cmp.Or(
		cmp.Compare(s.weight(k)*s.parts[j][group], s.weight(j)*s.parts[k][group]),
		cmp.Compare(s.chosen[k], s.chosen[j]),
	)
}

// without takes as much of row from numbers as makes that of a group 0, over the
// next denominator. All numbers are determinants of the given ones, so that no
// rest is left.
func (s *stand) without(l, row []int, group int) []int {
	left := make([]int, len(l))
	for g := range left {
		left[g] = (l[g]*row[group] - l[group]*row[g]) / s.den
	}
	return left
}

// weight returns the weight of a chosen group in the balance.
func (s *stand) weight(k int) int {
	return s.parts[k][whole(s.excesses)]
}

// isAgainst reports whether the balance is against the purse: all get by the pay
// what the balance earns, and the whole earns less.
func (s *stand) isAgainst() bool {
	return s.excesses[whole(s.excesses)] < 0
}

func (s *stand) balance() api.Balance {
	b := api.Balance{Den: s.den}
	for k, group := range s.chosen {
		if s.weight(k) > 0 {
			b.Parts = append(b.Parts, api.Part{Group: group, Weight: s.weight(k)})
		}
	}
	return b
}

// pay returns what the players get: what they are worth alone, but for what they
// lack.
func (s *stand) pay(v []int) api.Pay {
	pay := api.Pay{Den: s.den}
	for p := range player(players(v)) {
		pay.Num = append(pay.Num, s.den*v[p.alone()]-s.excesses[p.alone()])
	}
	return pay
}
