package decoy

import (
	"errors"
	"slices"
	"testing"

	"wigeon/api"
	"wigeon/ring"
)

// audited returns a decoy with three birds, on a day with a wind and a pipe that
// is worked.
func audited(t *testing.T) *Decoy {
	t.Helper()
	pages := []string{
		"wind N", "work 0", "ring " + made(0), "ring " + made(1), "day", "wind NE", "work 0", "again " + made(1), "ring " + made(2), "dead " + made(0),
		"day", "wind E", "work 1", "again " + made(1), "shot",
	}
	d, n, e := Replay([]api.Arc{{From: 0, Width: 9}, {From: 0, Width: 20}}, []api.Block{{Series: "A", From: 0, To: 9}}, pages)
	if n != len(pages) || e != api.OK || !d.Audit() {
		t.Fatalf("Replay(%q): %d, %d", pages, n, e)
	}
	return d
}

// made returns a ring of the series A.
func made(number int) string {
	text, _ := ring.Make("A", number)
	return text
}

// TestAuditOfWrongDecoys tests that Audit refuses decoys that differ from what
// their pages make of them; orders do not make such ones.
func TestAuditOfWrongDecoys(t *testing.T) {
	for name, spoil := range map[string]func(s *season){
		"a wrong check digit":          func(s *season) { s.birds[0].Ring = "A000009" },
		"no ring":                      func(s *season) { s.birds[0].Ring = "" },
		"a ring of no block":           func(s *season) { s.birds[0].Ring = made(10) },
		"another ring":                 func(s *season) { s.birds[0].Ring = made(3) },
		"a ring that is there twice":   func(s *season) { s.birds[0].Ring = s.birds[2].Ring },
		"a day that comes twice":       func(s *season) { s.birds[1].Days = []int{0, 1, 1, 2} },
		"days that are not in order":   func(s *season) { s.birds[1].Days = []int{0, 2, 1} },
		"a day that has not come":      func(s *season) { s.birds[1].Days[2] = 3 },
		"a day too few":                func(s *season) { s.birds[1].Days = []int{0, 1} },
		"a day too many":               func(s *season) { s.birds[2].Days = []int{1, 2} },
		"a bird that is not dead":      func(s *season) { s.birds[0].Dead = false },
		"a bird that is dead":          func(s *season) { s.birds[1].Dead = true },
		"a bird too few":               func(s *season) { s.birds = s.birds[:2] },
		"a bird too many":              func(s *season) { s.birds = append(s.birds, Bird{Ring: made(4), Days: []int{2}}) },
		"birds in another order":       func(s *season) { slices.Reverse(s.birds) },
		"a later day":                  func(s *season) { s.day = 3 },
		"another wind":                 func(s *season) { s.wind = 9 },
		"a wind that is not known":     func(s *season) { s.isWindKnown = false },
		"no wind":                      func(s *season) { s.wind, s.isWindKnown = 0, false },
		"another pipe that was worked": func(s *season) { s.worked = []int{0} },
		"a pipe too many":              func(s *season) { s.worked = []int{0, 1} },
		"no pipe":                      func(s *season) { s.worked = nil },
		"no pages":                     func(s *season) { s.pages = nil },
		"a page too few in the middle": func(s *season) { s.pages = slices.Delete(s.pages, 8, 9) },
		"a page that is refused":       func(s *season) { s.pages[len(s.pages)-1] = "work 1" },
		"a page that is no order":      func(s *season) { s.pages[len(s.pages)-1] = "night" },
		"other pipes":                  func(s *season) { s.pipes = s.pipes[:1] },
		"other blocks":                 func(s *season) { s.blocks[0].From = 1 },
	} {
		d := audited(t)
		spoil(&d.season)
		if d.Audit() {
			t.Errorf("Audit accepts %s", name)
		}
	}
}

// TestRightBirds tests the part of Audit that looks at the birds alone, which
// Replay would find as well.
func TestRightBirds(t *testing.T) {
	for name, x := range map[string]struct {
		birds []Bird
		want  bool
	}{
		"no birds":           {nil, true},
		"right birds":        {[]Bird{{Ring: made(0), Days: []int{0, 2}}, {Ring: made(9), Days: []int{2}, Dead: true}}, true},
		"a wrong ring":       {[]Bird{{Ring: "A000009", Days: []int{0}}}, false},
		"a ring of no block": {[]Bird{{Ring: made(0), Days: []int{0}}, {Ring: made(10), Days: []int{0}}}, false},
		"a ring twice":       {[]Bird{{Ring: made(0), Days: []int{0}}, {Ring: made(1), Days: []int{0}}, {Ring: made(0), Days: []int{1}}}, false},
		"a day twice":        {[]Bird{{Ring: made(0), Days: []int{1, 1}}}, false},
		"days backward":      {[]Bird{{Ring: made(0), Days: []int{1, 0}}}, false},
		"a day to come":      {[]Bird{{Ring: made(0), Days: []int{0, 3}}}, false},
		"a day before all":   {[]Bird{{Ring: made(0), Days: []int{-1, 0}}}, false},
	} {
		s := season{day: 2, blocks: []api.Block{{Series: "A", From: 0, To: 9}}, birds: x.birds}
		if s.hasRightBirds() != x.want {
			t.Errorf("%s: %t", name, !x.want)
		}
	}
}

// TestEquals tests the part of Audit that compares the decoy with the one that
// Replay makes.
func TestEquals(t *testing.T) {
	one, other := audited(t), audited(t)
	if !one.season.equals(&other.season) {
		t.Error("equal decoys are not equal")
	}
	other.season.pages[14] = "day"
	if one.season.equals(&other.season) {
		t.Error("decoys with different roots are equal")
	}
}

func TestRefusal(t *testing.T) {
	if e := codeOf(nil); e != api.OK {
		t.Errorf("codeOf(nil): %d", e)
	}
	for _, err := range []error{refusal{api.ErrMany}, errors.Join(errors.New("first"), refusal{api.ErrMany})} {
		if e := codeOf(err); e != api.ErrMany {
			t.Errorf("codeOf(%v): %d", err, e)
		}
	}
	if text := (refusal{api.ErrRule}).Error(); text != "the order is refused: 8" {
		t.Errorf("Error: %q", text)
	}
	d := audited(t)
	var r refusal
	if err := d.season.execute("work 1"); !errors.As(err, &r) || r.code != api.ErrRule {
		t.Errorf("execute: %v", err)
	}
}
