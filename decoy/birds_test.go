package decoy_test

import (
	"math"
	"slices"
	"strconv"
	"testing"

	"wigeon/api"
	"wigeon/count"
	"wigeon/decoy"
)

// notRings are texts that are no rings, and their errors.
var notRings = []struct {
	text string
	want api.Errno
}{
	{"A", api.ErrSyntax}, {"A12345", api.ErrSyntax}, {"a000000", api.ErrSyntax}, {"ABC000000", api.ErrSyntax}, {"000000", api.ErrSyntax}, {"A00000?", api.ErrSyntax}, {"A0000000", api.ErrSyntax},
	{"A000009", api.ErrCheck}, {"BC000009", api.ErrCheck}, {"Z000009", api.ErrCheck},
}

// at begins a day on which the first pipe is worked.
var at = []string{"day", "wind N", "work 0"}

func sameBirds(t *testing.T, d *decoy.Decoy, want ...decoy.Bird) {
	t.Helper()
	if !slices.EqualFunc(d.Birds(), want, sameBird) {
		t.Errorf("Birds after %q: %v, want %v", d.Pages(), d.Birds(), want)
	}
	for _, w := range want {
		if b, e := d.Bird(w.Ring); !sameBird(b, w) || e != api.OK {
			t.Errorf("Bird(%q) after %q: %v, %d, want %v", w.Ring, d.Pages(), b, e, w)
		}
	}
}

func TestRing(t *testing.T) {
	a, b, c := ringOf(t, "A", 0), ringOf(t, "BC", 6), ringOf(t, "A", 101)
	far := []string{ringOf(t, "A", 102), ringOf(t, "BC", 4), ringOf(t, "BC", 7), ringOf(t, "B", 5), ringOf(t, "CB", 5), ringOf(t, "A", 99999)}
	d := begin(t)
	for range 2 { // without a pipe that is worked, and with one
		for _, x := range notRings {
			do(t, d, x.want, "ring "+x.text)
		}
		for _, text := range far {
			do(t, d, api.ErrNone, "ring "+text)
		}
		if d.Day() == 0 {
			do(t, d, api.ErrState, "ring "+a, "ring "+b)
			do(t, d, api.OK, "day", "wind N")
			do(t, d, api.ErrState, "ring "+a, "ring "+b)
			do(t, d, api.OK, "work 0")
		}
	}
	do(t, d, api.OK, "ring "+c, "ring "+a)
	do(t, d, api.ErrTwice, "ring "+a, "ring "+c)
	do(t, d, api.OK, "shot", "ring "+b) // a shot does not end the work of the day
	sameBirds(t, d, decoy.Bird{Ring: c, Days: []int{1}}, decoy.Bird{Ring: a, Days: []int{1}}, decoy.Bird{Ring: b, Days: []int{1}})
	do(t, d, api.OK, "day")
	do(t, d, api.ErrTwice, "ring "+a) // before ErrState
	do(t, d, api.ErrState, "ring "+ringOf(t, "A", 1))
	do(t, d, api.OK, "dead "+a)
	do(t, d, api.ErrTwice, "ring "+a) // the ring of a dead bird was used
}

func TestAgain(t *testing.T) {
	a, b := ringOf(t, "A", 3), ringOf(t, "A", 4)
	d := begin(t, "wind N", "work 0", "ring "+a)
	for _, x := range notRings {
		do(t, d, x.want, "again "+x.text)
	}
	do(t, d, api.ErrNone, "again "+b, "again "+ringOf(t, "ZZ", 0))
	do(t, d, api.ErrTwice, "again "+a)
	do(t, d, api.OK, "day")
	do(t, d, api.ErrNone, "again "+b) // before ErrState
	do(t, d, api.ErrState, "again "+a)
	do(t, d, api.OK, "wind N")
	do(t, d, api.ErrState, "again "+a)
	do(t, d, api.OK, "work 0", "again "+a)
	do(t, d, api.ErrTwice, "again "+a)
	sameBirds(t, d, decoy.Bird{Ring: a, Days: []int{0, 1}})
	do(t, d, api.OK, "day")
	do(t, d, api.OK, at...)
	do(t, d, api.OK, "again "+a, "ring "+b)
	sameBirds(t, d, decoy.Bird{Ring: a, Days: []int{0, 1, 3}}, decoy.Bird{Ring: b, Days: []int{3}})
	do(t, d, api.OK, "dead "+a)
	do(t, d, api.ErrState, "again "+a) // before ErrTwice
	do(t, d, api.OK, at...)
	do(t, d, api.ErrState, "again "+a)
	do(t, d, api.OK, "again "+b)
	sameBirds(t, d, decoy.Bird{Ring: a, Days: []int{0, 1, 3}, Dead: true}, decoy.Bird{Ring: b, Days: []int{3, 4}})
}

func TestWorn(t *testing.T) {
	a, b, c := ringOf(t, "A", 3), ringOf(t, "A", 14), ringOf(t, "BC", 5)
	d := begin(t)
	noWorn := []string{"worn ??????", "worn A", "worn a??????", "worn ?????????", "worn 0??????", "worn ??????A", "worn A?????*", "worn ?"}
	do(t, d, api.ErrSyntax, noWorn...)
	do(t, d, api.ErrNone, "worn ???????", "worn A??????", "worn A000009", "worn "+a)
	do(t, d, api.OK, "wind N", "work 0", "ring "+a, "ring "+b, "ring "+c, "day")
	do(t, d, api.ErrSyntax, noWorn...)
	do(t, d, api.ErrNone, "worn B??????", "worn CC??????", "worn A0002??", "worn C???????", "worn "+ringOf(t, "A", 4), "worn A000009")
	do(t, d, api.ErrMany, "worn ???????", "worn A??????", "worn ?000???") // before ErrState
	do(t, d, api.ErrState, "worn A0000??", "worn "+a, "worn ????????")
	do(t, d, api.OK, "wind N", "work 0", "worn ?00003?", "worn ????????")
	do(t, d, api.ErrTwice, "worn "+a, "worn A0000??", "worn "+c, "worn ?C??????", "again "+a)
	do(t, d, api.ErrMany, "worn ???????")
	sameBirds(t, d, decoy.Bird{Ring: a, Days: []int{0, 1}}, decoy.Bird{Ring: b, Days: []int{0}}, decoy.Bird{Ring: c, Days: []int{0, 1}})
	do(t, d, api.OK, "dead "+a, "worn ???????") // only one living bird fits
	do(t, d, api.ErrNone, "worn "+a, "worn A0000??")
	do(t, d, api.OK, at...)
	do(t, d, api.OK, "dead "+b, "worn "+c)
	do(t, d, api.ErrNone, "worn ???????", "worn "+b)
	sameBirds(t, d, decoy.Bird{Ring: a, Days: []int{0, 1}, Dead: true}, decoy.Bird{Ring: b, Days: []int{0, 1}, Dead: true}, decoy.Bird{Ring: c, Days: []int{0, 1, 2}})
}

func TestDead(t *testing.T) {
	a, b := ringOf(t, "A", 3), ringOf(t, "A", 4)
	d := begin(t, "wind N", "work 0", "ring "+a, "ring "+b, "day")
	for _, x := range notRings {
		do(t, d, x.want, "dead "+x.text)
	}
	do(t, d, api.ErrNone, "dead "+ringOf(t, "A", 5), "dead "+ringOf(t, "ZZ", 5))
	do(t, d, api.OK, "dead "+b) // on a day without work
	do(t, d, api.ErrState, "dead "+b)
	sameBirds(t, d, decoy.Bird{Ring: a, Days: []int{0}}, decoy.Bird{Ring: b, Days: []int{0}, Dead: true})
	do(t, d, api.OK, "day", "dead "+a)
	do(t, d, api.ErrState, "dead "+a, "dead "+b)
}

func TestBird(t *testing.T) {
	d := begin(t, "wind N", "work 0", "ring "+ringOf(t, "A", 3))
	for _, x := range notRings {
		if b, e := d.Bird(x.text); !sameBird(b, decoy.Bird{}) || e != x.want {
			t.Errorf("Bird(%q): %v, %d, want %d", x.text, b, e, x.want)
		}
	}
	for _, text := range []string{ringOf(t, "A", 4), ringOf(t, "B", 3), ringOf(t, "ZZ", 99999)} {
		if b, e := d.Bird(text); !sameBird(b, decoy.Bird{}) || e != api.ErrNone {
			t.Errorf("Bird(%q): %v, %d", text, b, e)
		}
	}
}

func checkLeft(t *testing.T, d *decoy.Decoy, want ...int) {
	t.Helper()
	for block, w := range want {
		if n, e := d.Left(block); n != w || e != api.OK {
			t.Errorf("Left(%d) after %q: %d, %d, want %d", block, d.Pages(), n, e, w)
		}
	}
	for _, block := range []int{-1, len(want), math.MinInt, math.MaxInt} {
		if n, e := d.Left(block); n != 0 || e != api.ErrNone {
			t.Errorf("Left(%d): %d, %d", block, n, e)
		}
	}
}

func TestLeft(t *testing.T) {
	a, b := ringOf(t, "BC", 5), ringOf(t, "BC", 6)
	d := begin(t)
	checkLeft(t, d, 100, 2, 2)
	do(t, d, api.OK, "wind N", "work 0", "ring "+a, "ring "+ringOf(t, "A", 99), "ring "+ringOf(t, "A", 0))
	checkLeft(t, d, 98, 1, 2)
	do(t, d, api.OK, "ring "+b, "ring "+ringOf(t, "A", 100), "dead "+a)
	checkLeft(t, d, 98, 0, 1)
	do(t, d, api.OK, at...)
	do(t, d, api.OK, "again "+b) // uses no ring
	checkLeft(t, d, 98, 0, 1)
	one, _ := decoy.New(nil, []api.Block{{Series: "A", From: 0, To: 99999}})
	checkLeft(t, one, 100000)
	none, _ := decoy.New(nil, nil)
	checkLeft(t, none)
}

// TestCatch tests the catches of days on which birds are ringed, caught, and dead.
func TestCatch(t *testing.T) {
	a, b, c := ringOf(t, "A", 1), ringOf(t, "A", 2), ringOf(t, "A", 3)
	d := begin(t, at...)
	do(t, d, api.OK, "ring "+a, "ring "+b)
	do(t, d, api.OK, at...)
	do(t, d, api.OK, "worn ?00001?", "ring "+c, "dead "+b)
	do(t, d, api.OK, at...)
	do(t, d, api.OK, "again "+c, "again "+a, "dead "+a, "day")
	for day, want := range []api.Catch{{}, {Caught: 2}, {Marked: 2, Caught: 2, Again: 1}, {Marked: 3, Caught: 2, Again: 2}, {Marked: 3}} {
		if got, e := d.Catch(day); got != want || e != api.OK {
			t.Errorf("Catch(%d): %v, %d, want %v", day, got, e, want)
		}
		guess, e := count.Chapman(want.Marked, want.Caught, want.Again)
		if got, f := d.Guess(day); got != guess || e != api.OK || f != api.OK {
			t.Errorf("Guess(%d): %v, %d, want %v", day, got, f, guess)
		}
	}
	if got, e := d.Guess(2); got != (api.Rat{Num: 7, Den: 2}) || e != api.OK {
		t.Errorf("Guess(2): %v, %d", got, e)
	}
	for _, day := range []int{-1, 5, math.MinInt, math.MaxInt} {
		if got, e := d.Catch(day); got != (api.Catch{}) || e != api.ErrArg {
			t.Errorf("Catch(%d): %v, %d", day, got, e)
		}
		if got, e := d.Guess(day); got != (api.Rat{}) || e != api.ErrArg {
			t.Errorf("Guess(%d): %v, %d", day, got, e)
		}
	}
	do(t, d, api.OK, "day")
	if _, e := d.Catch(5); e != api.OK {
		t.Errorf("Catch of a day that has come: %d", e)
	}
}

// TestManyBirds tests Guess with more birds than may be counted.
func TestManyBirds(t *testing.T) {
	for _, birds := range []int{60, 61, 62} {
		d := begin(t, "wind N", "work 0")
		for number := range birds {
			do(t, d, api.OK, "ring "+ringOf(t, "A", number))
		}
		if c, e := d.Catch(0); c != (api.Catch{Caught: birds}) || e != api.OK {
			t.Errorf("Catch of %d birds: %v, %d", birds, c, e)
		}
		guess, e := d.Guess(0)
		if birds == 60 && (guess != (api.Rat{Num: 60, Den: 1}) || e != api.OK) {
			t.Errorf("Guess of 60 birds: %v, %d", guess, e)
		}
		if birds > 60 && (guess != (api.Rat{}) || e != api.ErrArg) {
			t.Errorf("Guess of %s birds: %v, %d", strconv.Itoa(birds), guess, e)
		}
	}
	// Too many birds may be marked, too.
	d := begin(t, "wind N", "work 0")
	for number := range 61 {
		do(t, d, api.OK, "ring "+ringOf(t, "A", number))
	}
	do(t, d, api.OK, "day")
	if c, e := d.Catch(1); c != (api.Catch{Marked: 61}) || e != api.OK {
		t.Errorf("Catch behind 61 birds: %v, %d", c, e)
	}
	if guess, e := d.Guess(1); guess != (api.Rat{}) || e != api.ErrArg {
		t.Errorf("Guess behind 61 birds: %v, %d", guess, e)
	}
}
