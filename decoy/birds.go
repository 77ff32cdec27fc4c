package decoy

import (
	"slices"

	"wigeon/api"
	"wigeon/ring"
)

func (b Bird) clone() Bird {
	b.Days = slices.Clone(b.Days)
	return b
}

// find returns where the bird that has a ring is in the list of birds.
func (s *season) find(text string) (int, api.Errno) {
	if e := ring.Valid(text); e != api.OK {
		return 0, e
	}
	i := place(s.birds, text)
	if i < 0 {
		return 0, api.ErrNone
	}
	return i, api.OK
}

// place returns where the bird with a ring is in a list, and -1 if it is not there.
func place(birds []Bird, text string) int {
	return slices.IndexFunc(birds, func(b Bird) bool { return b.Ring == text })
}

func (s *season) ringBird(text string) error {
	_, isOwned, e := ring.Owner(s.blocks, text)
	if e != api.OK {
		return refusal{e}
	}
	if !isOwned {
		return refusal{api.ErrNone}
	}
	if place(s.birds, text) >= 0 {
		return refusal{api.ErrTwice}
	}
	if len(s.worked) == 0 {
		return refusal{api.ErrState}
	}
	s.birds = append(s.birds, Bird{Ring: text, Days: []int{s.day}})
	return nil
}

func (s *season) catchRing(text string) error {
	i, e := s.find(text)
	if e != api.OK {
		return refusal{e}
	}
	return s.catchBird(i)
}

func (s *season) catchWorn(worn string) error {
	if !ring.IsWorn(worn) {
		return refusal{api.ErrSyntax}
	}
	found := s.livingThatFit(worn)
	switch len(found) {
	case 0:
		return refusal{api.ErrNone}
	case 1:
		return s.catchBird(found[0])
	}
	return refusal{api.ErrMany}
}

// livingThatFit returns where the birds that are not dead and whose rings fit a
// worn one are in the list of birds.
func (s *season) livingThatFit(worn string) []int {
	var found []int
	for i, b := range s.birds {
		if fits, _ := ring.Fits(worn, b.Ring); fits && !b.Dead {
			found = append(found, i)
		}
	}
	return found
}

func (s *season) catchBird(i int) error {
	b := &s.birds[i]
	if len(s.worked) == 0 || b.Dead {
		return refusal{api.ErrState}
	}
	if slices.Contains(b.Days, s.day) {
		return refusal{api.ErrTwice}
	}
	b.Days = append(b.Days, s.day)
	return nil
}

func (s *season) loseBird(text string) error {
	i, e := s.find(text)
	if e != api.OK {
		return refusal{e}
	}
	if s.birds[i].Dead {
		return refusal{api.ErrState}
	}
	s.birds[i].Dead = true
	return nil
}

// left returns how many rings of a block were not used.
func (s *season) left(block int) (int, api.Errno) {
	if block < 0 || block >= len(s.blocks) {
		return 0, api.ErrNone
	}
	one := s.blocks[block : block+1]
	left, e := ring.Total(one)
	if e != api.OK {
		return 0, e
	}
	for _, b := range s.birds {
		if isOf(one, b.Ring) {
			left--
		}
	}
	return left, api.OK
}

// isOf reports whether a text is a ring of some block.
func isOf(blocks []api.Block, text string) bool {
	_, isOwned, e := ring.Owner(blocks, text)
	return e == api.OK && isOwned
}

// catch returns the catch of a day.
func (s *season) catch(day int) (api.Catch, api.Errno) {
	if day < 0 || day > s.day {
		return api.Catch{}, api.ErrArg
	}
	var c api.Catch
	for _, b := range s.birds {
		// The first of the days is the one on which the bird was ringed.
		isMarked, isCaught := b.Days[0] < day, slices.Contains(b.Days, day)
		if isMarked {
			c.Marked++
		}
		if isCaught {
			c.Caught++
		}
		if isMarked && isCaught {
			c.Again++
		}
	}
	return c, api.OK
}
