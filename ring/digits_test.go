package ring_test

import (
	"math"
	"slices"
	"testing"

	"wigeon/api"
	"wigeon/ring"
)

// notDigits are numbers that are no digits.
var notDigits = []int{-1, 10, 11, math.MinInt, math.MaxInt}

// modulo returns x modulo n, from 0 to n - 1.
func modulo(x, n int) int {
	return (x%n + n) % n
}

// wantProduct is the product as the chapter words it, without a table.
func wantProduct(x, y int) int {
	switch {
	case x < 5 && y < 5:
		return modulo(x+y, 5)
	case x < 5:
		return 5 + modulo(x+y-5, 5)
	case y < 5:
		return 5 + modulo(x-5-y, 5)
	}
	return modulo(x-y, 5)
}

// wantTurn is the digit x turned so many times, by a list of the chapter's pairs.
func wantTurn(x, times int) int {
	for range times {
		switch x {
		case 0:
			x = 1
		case 1:
			x = 5
		case 2:
			x = 7
		case 3:
			x = 6
		case 4:
			x = 2
		case 5:
			x = 8
		case 6:
			x = 3
		case 7:
			x = 0
		case 8:
			x = 9
		case 9:
			x = 4
		}
	}
	return x
}

// wantSum is the sum as the chapter words it.
func wantSum(digits []int) int {
	s := 0
	for i := len(digits) - 1; i >= 0; i-- {
		s = wantProduct(s, wantTurn(digits[i], len(digits)-1-i))
	}
	return s
}

// lists returns lists of digits of every length from 0 to most, of many kinds.
func lists(most int) [][]int {
	var all [][]int
	for n := range most + 1 {
		for start := range 10 {
			for step := range 10 {
				l := make([]int, n)
				for i := range l {
					l[i] = (start + step*i + i*i) % 10
				}
				all = append(all, l)
			}
		}
	}
	return all
}

func TestTimes(t *testing.T) {
	for x := range 10 {
		for y := range 10 {
			if n, e := ring.Times(x, y); n != wantProduct(x, y) || e != api.OK {
				t.Errorf("Times(%d, %d): %d, %d", x, y, n, e)
			}
		}
	}
	for _, x := range notDigits {
		if n, e := ring.Times(x, 3); n != 0 || e != api.ErrArg {
			t.Errorf("Times(%d, 3): %d, %d", x, n, e)
		}
		if n, e := ring.Times(3, x); n != 0 || e != api.ErrArg {
			t.Errorf("Times(3, %d): %d, %d", x, n, e)
		}
	}
}

func TestUndo(t *testing.T) {
	for x := range 10 {
		y, e := ring.Undo(x)
		if e != api.OK || y < 0 || y > 9 || wantProduct(x, y) != 0 {
			t.Errorf("Undo(%d): %d, %d", x, y, e)
		}
	}
	for _, x := range notDigits {
		if y, e := ring.Undo(x); y != 0 || e != api.ErrArg {
			t.Errorf("Undo(%d): %d, %d", x, y, e)
		}
	}
}

func TestTurn(t *testing.T) {
	for x := range 10 {
		for times := range 1001 {
			if n, e := ring.Turn(x, times); n != wantTurn(x, times) || e != api.OK {
				t.Errorf("Turn(%d, %d): %d, %d", x, times, n, e)
			}
		}
	}
	for _, x := range notDigits {
		if n, e := ring.Turn(x, 1); n != 0 || e != api.ErrArg {
			t.Errorf("Turn(%d, 1): %d, %d", x, n, e)
		}
	}
	for _, times := range []int{-1, 1001, math.MinInt, math.MaxInt} {
		if n, e := ring.Turn(4, times); n != 0 || e != api.ErrArg {
			t.Errorf("Turn(4, %d): %d, %d", times, n, e)
		}
	}
}

func TestSum(t *testing.T) {
	for _, l := range lists(api.MaxDigits) {
		if n, e := ring.Sum(l); n != wantSum(l) || e != api.OK {
			t.Errorf("Sum(%v): %d, %d", l, n, e)
		}
	}
	if n, e := ring.Sum(nil); n != 0 || e != api.OK {
		t.Errorf("Sum(nil): %d, %d", n, e)
	}
	if n, e := ring.Sum([]int{2, 3, 6, 3}); n != 0 || e != api.OK {
		t.Errorf("Sum of the example: %d, %d", n, e)
	}
}

func TestCheckDigit(t *testing.T) {
	for _, l := range lists(api.MaxDigits - 1) {
		// A full list with room behind it shows whether the argument is written to.
		roomy := append(slices.Clone(l), 7)
		n, e := ring.CheckDigit(roomy[:len(l)])
		if e != api.OK || wantSum(append(slices.Clone(l), n)) != 0 {
			t.Errorf("CheckDigit(%v): %d, %d", l, n, e)
		}
		if roomy[len(l)] != 7 || !slices.Equal(roomy[:len(l)], l) {
			t.Errorf("CheckDigit(%v) changed its argument: %v", l, roomy)
		}
	}
	if n, e := ring.CheckDigit([]int{2, 3, 6}); n != 3 || e != api.OK {
		t.Errorf("CheckDigit of the example: %d, %d", n, e)
	}
	if n, e := ring.CheckDigit(nil); n != 0 || e != api.OK {
		t.Errorf("CheckDigit(nil): %d, %d", n, e)
	}
}

func TestSumErrors(t *testing.T) {
	for _, c := range []struct {
		most int
		f    func([]int) (int, api.Errno)
	}{{12, ring.Sum}, {11, ring.CheckDigit}} {
		for n := 1; n <= c.most; n++ {
			for at := range n {
				for _, x := range notDigits {
					l := make([]int, n)
					l[at] = x
					if s, e := c.f(l); s != 0 || e != api.ErrArg {
						t.Errorf("%v: %d, %d", l, s, e)
					}
				}
			}
		}
		if _, e := c.f(make([]int, c.most)); e != api.OK {
			t.Errorf("%d digits: %d", c.most, e)
		}
		// Too many digits come before wrong ones.
		l := slices.Repeat([]int{10}, c.most+1)
		if s, e := c.f(l); s != 0 || e != api.ErrLarge {
			t.Errorf("%v: %d, %d", l, s, e)
		}
		if s, e := c.f(make([]int, c.most+1)); s != 0 || e != api.ErrLarge {
			t.Errorf("%d digits: %d, %d", c.most+1, s, e)
		}
	}
}

// TestSlipsChangeSum tests that no wrong digit and no exchange of two neighbors
// leaves the sum 0, in lists of every length.
func TestSlipsChangeSum(t *testing.T) {
	for _, l := range lists(api.MaxDigits - 1) {
		check, _ := ring.CheckDigit(l)
		right := append(slices.Clone(l), check)
		if n, e := ring.Sum(right); n != 0 || e != api.OK {
			t.Fatalf("Sum(%v): %d, %d", right, n, e)
		}
		for i := range right {
			for d := range 10 {
				slip := slices.Clone(right)
				slip[i] = d
				if n, _ := ring.Sum(slip); (n == 0) != (d == right[i]) {
					t.Errorf("%v for %v: the sum is %d", slip, right, n)
				}
			}
			if i == 0 || right[i] == right[i-1] {
				continue
			}
			slip := slices.Clone(right)
			slip[i], slip[i-1] = slip[i-1], slip[i]
			if n, _ := ring.Sum(slip); n == 0 {
				t.Errorf("%v for %v: the sum is 0", slip, right)
			}
		}
	}
}
