package ring

import "wigeon/api"

// maxTimes is how often Turn turns a digit at most.
const maxTimes = 1000

// product holds x * y in the row x and the column y.
var product = [10][10]int{
	{0, 1, 2, 3, 4, 5, 6, 7, 8, 9},
	{1, 2, 3, 4, 0, 6, 7, 8, 9, 5},
	{2, 3, 4, 0, 1, 7, 8, 9, 5, 6},
	{3, 4, 0, 1, 2, 8, 9, 5, 6, 7},
	{4, 0, 1, 2, 3, 9, 5, 6, 7, 8},
	{5, 9, 8, 7, 6, 0, 4, 3, 2, 1},
	{6, 5, 9, 8, 7, 1, 0, 4, 3, 2},
	{7, 6, 5, 9, 8, 2, 1, 0, 4, 3},
	{8, 7, 6, 5, 9, 3, 2, 1, 0, 4},
	{9, 8, 7, 6, 5, 4, 3, 2, 1, 0},
}

// turned holds what each digit becomes when it is turned once.
var turned = [10]int{1, 5, 7, 6, 2, 8, 3, 0, 9, 4}

// Times returns the product of two digits.
func Times(x, y int) (int, api.Errno) {
	if !isDigit(x) || !isDigit(y) {
		return 0, api.ErrArg
	}
	return product[x][y], api.OK
}

// Undo returns the digit y for which x * y is 0.
func Undo(x int) (int, api.Errno) {
	if !isDigit(x) {
		return 0, api.ErrArg
	}
	return undo(x), api.OK
}

// Turn returns the digit x, turned so many times.
func Turn(x, times int) (int, api.Errno) {
	if !isDigit(x) || times < 0 || times > maxTimes {
		return 0, api.ErrArg
	}
	return turn(x, times), api.OK
}

// Sum returns the sum of a list of at most api.MaxDigits digits.
func Sum(digits []int) (int, api.Errno) {
	if e := validateDigits(digits, api.MaxDigits); e != api.OK {
		return 0, e
	}
	return sum(digits), api.OK
}

// CheckDigit returns the digit with which the list, with it added at the end, has the sum 0.
func CheckDigit(digits []int) (int, api.Errno) {
	if e := validateDigits(digits, api.MaxDigits-1); e != api.OK {
		return 0, e
	}
	return checkDigit(digits), api.OK
}

func isDigit(x int) bool {
	return x >= 0 && x <= 9
}

func validateDigits(digits []int, most int) api.Errno {
	if len(digits) > most {
		return api.ErrLarge
	}
	for _, d := range digits {
		if !isDigit(d) {
			return api.ErrArg
		}
	}
	return api.OK
}

func undo(x int) int {
	y := 0
	for product[x][y] != 0 {
		y++
	}
	return y
}

func turn(x, times int) int {
	for range times {
		x = turned[x]
	}
	return x
}

func sum(digits []int) int {
	total := 0
	for behind := range digits {
		d := digits[len(digits)-1-behind]
		total = product[total][turn(d, behind)]
	}
	return total
}

// checkDigit relies on the check digit being the first factor of the sum: with
// 0, the one, in its place, the sum is what it has to undo.
func checkDigit(digits []int) int {
	list := make([]int, len(digits)+1)
	copy(list, digits)
	return undo(sum(list))
}
