package count

import "strings"

// bird is a bird, known by its history. It was caught at least once.
type bird string

// first returns the day of the first catch.
func (b bird) first() int {
	return strings.Index(string(b), "1")
}

// last returns the day of the last catch.
func (b bird) last() int {
	return strings.LastIndex(string(b), "1")
}

func (b bird) isCaught(day int) bool {
	return b[day] == '1'
}

// isMarked reports whether the bird was caught on some day before.
func (b bird) isMarked(day int) bool {
	return b.first() < day
}

func (b bird) isCaughtAgain(day int) bool {
	return b.isCaught(day) && b.isMarked(day)
}

func (b bird) isNew(day int) bool {
	return b.first() == day
}

func (b bird) isAlive(day int) bool {
	return b.first() <= day && day <= b.last()
}

// isCaughtTillLater reports whether the bird was caught on the day and on some
// later one.
func (b bird) isCaughtTillLater(day int) bool {
	return b.isCaught(day) && b.last() > day
}
