package count_test

import (
	"math"
	"math/big"
	"math/bits"
	"math/rand/v2"
	"strings"
	"testing"

	"wigeon/api"
	"wigeon/count"
)

// The functions of this file find what the chapter's words ask for in the
// plainest way, to compare the package with it.

// notNumbers are numbers that are no numbers of birds.
var notNumbers = []int{-1, -2, 61, 62, 100, 1 << 32, -1 << 32, math.MaxInt, math.MinInt, math.MinInt + 1}

// someNumbers are numbers of birds of which all choices of four are looked at.
var someNumbers = []int{0, 1, 2, 3, 4, 5, 6, 7, 11, 20, 29, 30, 31, 45, 59, 60}

// triangle is Pascal's triangle, in which each number is the sum of two above it.
var triangle = func() (rows [61][61]int) {
	for n := range rows {
		rows[n][0] = 1
		for k := 1; k <= n; k++ {
			rows[n][k] = rows[n-1][k-1] + rows[n-1][k]
		}
	}
	return rows
}()

// wantWays returns the ways, by the chapter's words.
func wantWays(birds, marked, caught, again int) int {
	if marked > birds || caught > birds || again > marked || again > caught || caught-again > birds-marked {
		return 0
	}
	return triangle[marked][again] * triangle[birds-marked][caught-again]
}

// wantChance returns the chance of a recapture that keeps the rule.
func wantChance(birds, marked, caught, again int) *big.Rat {
	return big.NewRat(int64(wantWays(birds, marked, caught, again)), int64(triangle[birds][caught]))
}

// wantAtMost returns the chance of at most so many, which is 0 for -1.
func wantAtMost(birds, marked, caught, again int) *big.Rat {
	total := new(big.Rat)
	for k := range again + 1 {
		total.Add(total, wantChance(birds, marked, caught, k))
	}
	return total
}

// isRat reports whether a result is a valid fraction with a value.
func isRat(r api.Rat, want *big.Rat) bool {
	return want.Num().IsInt64() && want.Denom().IsInt64() && r == api.Rat{Num: int(want.Num().Int64()), Den: int(want.Denom().Int64())}
}

func ratOf(num, den int) *big.Rat {
	return big.NewRat(int64(num), int64(den))
}

// chance returns what Chance returns, which must be OK.
func chance(t *testing.T, birds, marked, caught, again int) *big.Rat {
	t.Helper()
	r, e := count.Chance(birds, marked, caught, again)
	if e != api.OK || r.Den <= 0 {
		t.Fatalf("Chance(%d, %d, %d, %d): %v, %d", birds, marked, caught, again, r, e)
	}
	return ratOf(r.Num, r.Den)
}

// eachFour calls a function with all choices of four numbers of a list.
func eachFour(l []int, each func(birds, marked, caught, again int)) {
	for _, birds := range l {
		for _, marked := range l {
			for _, caught := range l {
				for _, again := range l {
					each(birds, marked, caught, again)
				}
			}
		}
	}
}

// withWrong returns numbers of birds, each time with some that are wrong.
func withWrong(of ...int) [][]int {
	var l [][]int
	for _, n := range notNumbers {
		for wrong := 1; wrong < 1<<len(of); wrong++ {
			numbers := append([]int(nil), of...)
			for i := range numbers {
				if wrong>>i&1 == 1 {
					numbers[i] = n
				}
			}
			l = append(l, numbers)
		}
	}
	return l
}

// wantEnumerated returns of how many choices of caught birds so many are marked,
// by looking at all of them; the first birds are the marked ones.
func wantEnumerated(birds, marked, caught, again int) int {
	if marked > birds {
		return 0
	}
	ways := 0
	for choice := range uint(1) << birds {
		if bits.OnesCount(choice) == caught && bits.OnesCount(choice&(1<<marked-1)) == again {
			ways++
		}
	}
	return ways
}

type wrongDays struct {
	days []api.Catch
	e    api.Errno
}

// daysWithErrors returns lists that are no days, and their errors.
func daysWithErrors() []wrongDays {
	fine := api.Catch{Marked: 4, Caught: 5, Again: 2}
	rule := api.Catch{Marked: 4, Caught: 1, Again: 2}
	l := []wrongDays{
		{make([]api.Catch, 9), api.ErrLarge},
		{make([]api.Catch, 100000), api.ErrLarge},
		{append(make([]api.Catch, 8), api.Catch{Marked: -1}), api.ErrLarge},
		{append([]api.Catch{{Marked: -1}, rule}, make([]api.Catch, 7)...), api.ErrLarge},
		{[]api.Catch{{Again: 1}}, api.ErrRule},
		{[]api.Catch{{Marked: 1, Again: 1}}, api.ErrRule},
		{[]api.Catch{{Caught: 1, Again: 1}}, api.ErrRule},
		{[]api.Catch{{Marked: 60, Caught: 59, Again: 60}}, api.ErrRule},
		{[]api.Catch{{Marked: 59, Caught: 60, Again: 60}}, api.ErrRule},
		{append(make([]api.Catch, 7), rule), api.ErrRule},
	}
	for _, n := range notNumbers {
		for _, wrong := range []api.Catch{{Marked: n}, {Caught: n}, {Again: n}, {Marked: n, Caught: 1, Again: 2}, {Marked: 1, Caught: n, Again: 2}, {Marked: n, Caught: n, Again: n}} {
			l = append(l,
				wrongDays{[]api.Catch{wrong}, api.ErrArg},
				wrongDays{[]api.Catch{fine, wrong, fine}, api.ErrArg},
				// One by one: the first day with an error decides.
				wrongDays{[]api.Catch{rule, wrong}, api.ErrRule},
				wrongDays{[]api.Catch{wrong, rule}, api.ErrArg},
			)
		}
	}
	return l
}

type wrongHistories struct {
	l []string
	e api.Errno
}

// repeated returns a list of so many equal histories.
func repeated(history string, birds int) []string {
	l := make([]string, birds)
	for i := range l {
		l[i] = history
	}
	return l
}

// historiesWithErrors returns lists that are no histories, and their errors.
func historiesWithErrors() []wrongHistories {
	l := []wrongHistories{
		{repeated("1", 61), api.ErrLarge},
		{repeated("", 61), api.ErrLarge},
		{repeated("x", 61), api.ErrLarge},
		{append([]string{"x"}, repeated("1", 60)...), api.ErrLarge},
		{repeated("1", 100000), api.ErrLarge},
		{[]string{"100000000"}, api.ErrLarge},
		{[]string{"000000000"}, api.ErrLarge},
		{[]string{"xxxxxxxxx"}, api.ErrLarge},
		{[]string{"10000000", "100000000"}, api.ErrLarge},
		{[]string{"1", strings.Repeat("1", 100000)}, api.ErrLarge},
		{[]string{"1", ""}, api.ErrArg},
		{[]string{"10", "1"}, api.ErrArg},
		{[]string{"10", "100"}, api.ErrArg},
		{[]string{"10", "000"}, api.ErrArg},
		{append(repeated("01", 59), "001"), api.ErrArg},
		{[]string{""}, api.ErrRule},
		{[]string{"", ""}, api.ErrRule},
		{[]string{"0"}, api.ErrRule},
		{[]string{"00000000"}, api.ErrRule},
		{append(repeated("01", 59), "00"), api.ErrRule},
		// One by one: the first history with an error decides.
		{[]string{"00", "1"}, api.ErrRule},
		{[]string{"", "1"}, api.ErrRule},
		{[]string{"00", "111111111"}, api.ErrRule},
		{[]string{"1x", "111111111", "00"}, api.ErrArg},
		{[]string{"11", "1", "111111111"}, api.ErrArg},
		{[]string{"11", "111111111", "1"}, api.ErrLarge},
		{[]string{"11", "00", "x1"}, api.ErrRule},
		{[]string{"11", "x1", "00"}, api.ErrArg},
	}
	for _, text := range []string{"x", " ", "\n", "2", "/", "-", "\x00", "\x01", "\xff", "o", "l", "I"} {
		l = append(l,
			wrongHistories{[]string{text}, api.ErrArg},
			wrongHistories{[]string{"0" + text}, api.ErrArg},
			wrongHistories{[]string{"1" + text + "1"}, api.ErrArg},
			wrongHistories{[]string{"01", text + "1"}, api.ErrArg},
			wrongHistories{[]string{"01", text + "11"}, api.ErrArg},
		)
	}
	// Bytes are counted, not characters.
	return append(l, wrongHistories{[]string{"1·1"}, api.ErrArg}, wrongHistories{[]string{"1·······"}, api.ErrLarge}, wrongHistories{[]string{"111", "1·"}, api.ErrArg})
}

// smallHistories calls a function with all histories of at most three birds and
// at most three days, and with those of no bird.
func smallHistories(each func(l []string)) {
	each(nil)
	each([]string{})
	for days := 1; days <= 3; days++ {
		for a := 1; a < 1<<days; a++ {
			each([]string{historyOf(a, days)})
			for b := 1; b < 1<<days; b++ {
				each([]string{historyOf(a, days), historyOf(b, days)})
				for c := 1; c < 1<<days; c++ {
					each([]string{historyOf(a, days), historyOf(b, days), historyOf(c, days)})
				}
			}
		}
	}
}

// largeHistories calls a function with so many histories that are drawn.
func largeHistories(times int, each func(l []string)) {
	r := rand.New(rand.NewPCG(6, 5))
	for range times {
		days := r.IntN(8) + 1
		l := make([]string, r.IntN(60)+1)
		for i := range l {
			caught := r.IntN(1<<days-1) + 1
			if few := caught & r.IntN(1<<days); few > 0 {
				caught = few
			}
			l[i] = historyOf(caught, days)
		}
		each(l)
	}
}

// historyOf returns the history of a bird that was caught on the days of the
// bits of a number.
func historyOf(caught, days int) string {
	h := ""
	for day := range days {
		h += "01"[caught>>day&1 : caught>>day&1+1]
	}
	return h
}

// caughtIn reports whether a bird was caught on some day from one day to another.
func caughtIn(history string, from, to int) bool {
	for day := from; day <= to; day++ {
		if history[day] == '1' {
			return true
		}
	}
	return false
}

// number returns how many histories a condition holds for.
func number(l []string, holds func(h string) bool) int {
	n := 0
	for _, h := range l {
		if holds(h) {
			n++
		}
	}
	return n
}

func total(l []int) int {
	n := 0
	for _, k := range l {
		n += k
	}
	return n
}
