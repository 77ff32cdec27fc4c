package wind

import (
	"math/bits"

	"wigeon/api"
)

// numbers is a set of numbers from 0 to 31: of points, or of the numbers of
// pipes. It has the bit n for the number n.
type numbers uint32

// everyPoint is the set of all points.
const everyPoint numbers = 1<<api.Winds - 1

// setOf returns the set that is written as a number, and whether it is one.
func setOf(set int) (numbers, bool) {
	s := numbers(set)
	return s, int(s) == set
}

// gather returns the set of the numbers of a list that is a set.
func gather(l []int) numbers {
	var s numbers
	for _, n := range l {
		s |= 1 << n
	}
	return s
}

// list returns, in ascending order, the numbers that belong to a set.
func list(belongs func(n int) bool) []int {
	var l []int
	for n := range api.Winds {
		if belongs(n) {
			l = append(l, n)
		}
	}
	return l
}

// isSet reports whether a list is a set of numbers from 0 to limit - 1.
func isSet(l []int, limit int) bool {
	last := -1
	for _, n := range l {
		if n <= last || n >= limit {
			return false
		}
		last = n
	}
	return true
}

func (s numbers) has(n int) bool {
	return s>>n&1 == 1
}

func (s numbers) count() int {
	return bits.OnesCount32(uint32(s))
}

// turn adds any number to all numbers of the set, modulo 32.
func (s numbers) turn(by int) numbers {
	return numbers(bits.RotateLeft32(uint32(s), by))
}

// mirror replaces each number n by -n modulo 32: the bits in reverse order
// stand for 31 - n, which is one less.
func (s numbers) mirror() numbers {
	return numbers(bits.Reverse32(uint32(s))).turn(1)
}
