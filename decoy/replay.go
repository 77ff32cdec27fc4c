package decoy

import (
	"slices"

	"wigeon/api"
)

// Replay makes a decoy and executes its pages. It returns the number of the
// pages, or of the page that was refused.
func Replay(pipes []api.Arc, blocks []api.Block, pages []string) (*Decoy, int, api.Errno) {
	d, e := New(pipes, blocks)
	if e != api.OK {
		return nil, 0, e
	}
	for i, page := range pages {
		if e := d.Do(page); e != api.OK {
			return nil, i, e
		}
	}
	return d, len(pages), api.OK
}

// Run makes a decoy, executes orders, and returns their errors and the root.
func Run(pipes []api.Arc, blocks []api.Block, orders []string) ([]api.Errno, int, api.Errno) {
	d, e := New(pipes, blocks)
	if e != api.OK {
		return nil, 0, e
	}
	if len(orders) > api.MaxOrders {
		return nil, 0, api.ErrLarge
	}
	var codes []api.Errno
	for _, order := range orders {
		codes = append(codes, d.Do(order))
	}
	return codes, d.Root(), api.OK
}

// hasRightBirds reports whether the birds have rings of the blocks, no two the
// same, and days in order.
func (s *season) hasRightBirds() bool {
	for i, b := range s.birds {
		if !isOf(s.blocks, b.Ring) || place(s.birds, b.Ring) < i || !areDays(b.Days, s.day) {
			return false
		}
	}
	return true
}

// areDays reports whether days are in strictly ascending order, up to a last one.
func areDays(days []int, last int) bool {
	before := -1
	for _, day := range days {
		if day <= before || day > last {
			return false
		}
		before = day
	}
	return true
}

// isReplayed reports whether the pages make a decoy that is equal to this one.
func (s *season) isReplayed() bool {
	d, _, e := Replay(s.pipes, s.blocks, s.pages)
	return e == api.OK && s.equals(&d.season)
}

func (s *season) equals(other *season) bool {
	return s.day == other.day &&
		s.wind == other.wind && s.isWindKnown == other.isWindKnown &&
		slices.Equal(s.worked, other.worked) &&
		slices.EqualFunc(s.birds, other.birds, Bird.equals) &&
		s.root() == other.root()
}

func (b Bird) equals(other Bird) bool {
	return b.Ring == other.Ring && b.Dead == other.Dead && slices.Equal(b.Days, other.Days)
}
