package decoy

import (
	"slices"

	"wigeon/api"
	"wigeon/book"
	"wigeon/ring"
	"wigeon/wind"
)

// season is a decoy without its mutex, so that its methods can call each other.
type season struct {
	pipes       []api.Arc
	blocks      []api.Block
	day         int
	wind        int
	isWindKnown bool
	worked      []int // a set
	birds       []Bird
	hasShot     bool
	shotDay     int // the day of the last shot
	pages       []string
}

// begin returns a season with no birds and no pages.
func begin(pipes []api.Arc, blocks []api.Block) (season, api.Errno) {
	if e := wind.ValidatePipes(pipes); e != api.OK {
		return season{}, e
	}
	if e := ring.ValidateBlocks(blocks); e != api.OK {
		return season{}, e
	}
	return season{pipes: slices.Clone(pipes), blocks: slices.Clone(blocks)}, api.OK
}

// execute executes an order, which is the next page then.
func (s *season) execute(text string) error {
	o, isOrder := parse(text)
	if !isOrder {
		return refusal{api.ErrSyntax}
	}
	if len(s.pages) >= api.MaxOrders {
		return refusal{api.ErrLarge}
	}
	if err := s.carryOut(o); err != nil {
		return err
	}
	s.pages = append(s.pages, text)
	return nil
}

func (s *season) carryOut(o order) error {
	switch o.kind {
	case dayOrder:
		s.beginDay()
	case windOrder:
		return s.noteWind(o.word)
	case workOrder:
		return s.workPipe(o.pipe)
	case shotOrder:
		s.hasShot, s.shotDay = true, s.day
	case ringOrder:
		return s.ringBird(o.word)
	case againOrder:
		return s.catchRing(o.word)
	case wornOrder:
		return s.catchWorn(o.word)
	case deadOrder:
		return s.loseBird(o.word)
	}
	return nil
}

func (s *season) beginDay() {
	s.day++
	s.wind, s.isWindKnown = 0, false
	s.worked = nil
}

func (s *season) noteWind(name string) error {
	point, e := wind.Point(name)
	if e != api.OK {
		return refusal{e}
	}
	if s.isWindKnown {
		return refusal{api.ErrState}
	}
	s.wind, s.isWindKnown = point, true
	return nil
}

func (s *season) workPipe(pipe int) error {
	if pipe >= len(s.pipes) {
		return refusal{api.ErrNone}
	}
	if !s.isWindKnown {
		return refusal{api.ErrState}
	}
	workable, e := wind.Workable(s.pipes, s.wind)
	if e != api.OK {
		return refusal{e}
	}
	if !slices.Contains(workable, pipe) || !s.isQuiet() {
		return refusal{api.ErrRule}
	}
	at, isWorked := slices.BinarySearch(s.worked, pipe)
	if isWorked {
		return refusal{api.ErrTwice}
	}
	s.worked = slices.Insert(s.worked, at, pipe)
	return nil
}

// isQuiet reports whether the last shot, if there was one, is long ago.
func (s *season) isQuiet() bool {
	return !s.hasShot || s.shotDay < s.day-api.Quiet
}

func (s *season) root() int {
	// The pages are pages of a book, so there is no error.
	root, _ := book.Root(s.pages)
	return root
}
