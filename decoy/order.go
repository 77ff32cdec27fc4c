package decoy

import (
	"slices"
	"strconv"
	"strings"

	"wigeon/book"
)

// kind is a kind of orders.
type kind int

const (
	dayOrder kind = iota
	windOrder
	workOrder
	shotOrder
	ringOrder
	againOrder
	wornOrder
	deadOrder
	kinds // how many kinds there are
)

// maxPipe is the greatest number of a pipe that an order may name.
const maxPipe = 99

// firstWords holds the word with which orders of each kind begin.
var firstWords = [kinds]string{
	dayOrder:   "day",
	windOrder:  "wind",
	workOrder:  "work",
	shotOrder:  "shot",
	ringOrder:  "ring",
	againOrder: "again",
	wornOrder:  "worn",
	deadOrder:  "dead",
}

// order is what an order says.
type order struct {
	kind kind
	word string // the second word, if the kind has one
	pipe int    // the pipe that is to be worked
}

// parse returns the order that a text is, and whether it is one.
func parse(text string) (order, bool) {
	words := strings.Split(text, " ")
	k, isKind := kindOf(words[0])
	if !book.IsPage(text) || !isKind || len(words) != k.length() || slices.Contains(words, "") {
		return order{}, false
	}
	o := order{kind: k}
	if len(words) > 1 {
		o.word = words[1]
	}
	if k == workOrder {
		pipe, isNumber := numberOf(o.word)
		if !isNumber {
			return order{}, false
		}
		o.pipe = pipe
	}
	return o, true
}

// kindOf returns the kind of the orders that begin with a word, and whether
// there is one.
func kindOf(word string) (kind, bool) {
	for k, first := range firstWords {
		if first == word {
			return kind(k), true
		}
	}
	return 0, false
}

// length returns how many words the orders of a kind have.
func (k kind) length() int {
	switch k {
	case dayOrder, shotOrder:
		return 1
	}
	return 2
}

// numberOf returns the number of a pipe that a word is, and whether it is one.
func numberOf(word string) (int, bool) {
	n, err := strconv.Atoi(word)
	// A number can be read from several texts (0 from 00): only one is right.
	if err != nil || strconv.Itoa(n) != word || n < 0 || n > maxPipe {
		return 0, false
	}
	return n, true
}
