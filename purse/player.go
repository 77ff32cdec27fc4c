package purse

import "wigeon/api"

// player is one of those who earn together.
type player int

// alone returns the group of this player only.
func (p player) alone() int {
	return 1 << p
}

func (p player) isIn(group int) bool {
	return group&p.alone() != 0
}

// share is what a player gets.
type share struct {
	player
	num int
}

// shares returns what each player gets of a pay.
func shares(p api.Pay) []share {
	l := make([]share, len(p.Num))
	for i, num := range p.Num {
		l[i] = share{player(i), num}
	}
	return l
}

// excesses returns, for each group, by how much its value is above what its
// players get of a pay, over the denominator of the pay.
func excesses(v []int, p api.Pay) []int {
	given := shares(p)
	l := make([]int, len(v))
	for g := range l {
		l[g] = p.Den * v[g]
		for _, s := range given {
			if s.isIn(g) {
				l[g] -= s.num
			}
		}
	}
	return l
}
