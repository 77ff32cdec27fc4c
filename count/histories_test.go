package count_test

import (
	"slices"
	"testing"

	"wigeon/api"
	"wigeon/count"
)

func TestHistories(t *testing.T) {
	l := []string{"101", "011"}
	if got, e := count.Catches(l); !slices.Equal(got, []api.Catch{{Caught: 1}, {Marked: 1, Caught: 1}, {Marked: 2, Caught: 2, Again: 2}}) || e != api.OK {
		t.Errorf("Catches(%v): %v, %d", l, got, e)
	}
	for _, x := range []struct {
		name string
		f    func([]string) ([]int, api.Errno)
		want []int
	}{{"Alive", count.Alive, []int{1, 2, 2}}, {"Lives", count.Lives, []int{3, 2}}, {"First", count.First, []int{1, 1, 0}}} {
		if got, e := x.f(l); !slices.Equal(got, x.want) || e != api.OK {
			t.Errorf("%s(%v): %v, %d, want %v", x.name, l, got, e, x.want)
		}
	}
}

func TestValidateHistories(t *testing.T) {
	for _, l := range [][]string{nil, {}, {"1"}, {"00000001", "10000000", "11111111"}, repeated("1", 60), repeated("01010101", 60)} {
		if e := count.ValidateHistories(l); e != api.OK {
			t.Errorf("ValidateHistories(%q): %d", l, e)
		}
	}
	for _, x := range historiesWithErrors() {
		if e := count.ValidateHistories(x.l); e != x.e {
			t.Errorf("ValidateHistories of %d, %q: %d, want %d", len(x.l), x.l[:min(len(x.l), 3)], e, x.e)
		}
	}
}

// TestErrorsOfHistories tests that the errors of histories come before all others.
func TestErrorsOfHistories(t *testing.T) {
	for _, x := range historiesWithErrors() {
		if l, e := count.Catches(x.l); len(l) != 0 || e != x.e {
			t.Errorf("Catches of %d histories: %v, %d, want %d", len(x.l), l, e, x.e)
		}
		for name, f := range map[string]func([]string) ([]int, api.Errno){"Alive": count.Alive, "Lives": count.Lives, "First": count.First} {
			if l, e := f(x.l); len(l) != 0 || e != x.e {
				t.Errorf("%s of %d histories: %v, %d, want %d", name, len(x.l), l, e, x.e)
			}
		}
		for _, day := range []int{0, 1, -1, 8, 9, 1 << 32} {
			if r, e := count.Share(x.l, day); r != (api.Rat{}) || e != x.e {
				t.Errorf("Share of %d histories: %v, %d, want %d", len(x.l), r, e, x.e)
			}
		}
	}
}

// checkHistories compares all that is counted of histories with the chapter's
// words, and with what follows from them.
func checkHistories(t *testing.T, l []string) {
	t.Helper()
	given := slices.Clone(l)
	days := 0
	if len(l) > 0 {
		days = len(l[0])
	}
	var catches []api.Catch
	var alive, first, lives []int
	for day := range days {
		on := func(h string) bool { return caughtIn(h, day, day) }
		before := func(h string) bool { return caughtIn(h, 0, day-1) }
		after := func(h string) bool { return caughtIn(h, day+1, days-1) }
		catches = append(catches, api.Catch{
			Marked: number(l, before),
			Caught: number(l, on),
			Again:  number(l, func(h string) bool { return on(h) && before(h) }),
		})
		alive = append(alive, number(l, func(h string) bool { return on(h) || before(h) && after(h) }))
		first = append(first, number(l, func(h string) bool { return on(h) && !before(h) }))
	}
	for _, h := range l {
		lives = append(lives, lastOf(h)-firstOf(h)+1)
	}
	checkLists(t, l, catches, alive, lives, first)
	checkShares(t, l, days)
	if !slices.Equal(l, given) {
		t.Fatalf("%q have become %q", given, l)
	}
}

// firstOf returns the day of a bird's first catch.
func firstOf(history string) int {
	day := 0
	for !caughtIn(history, 0, day) {
		day++
	}
	return day
}

// lastOf returns the day of a bird's last catch.
func lastOf(history string) int {
	day := len(history) - 1
	for !caughtIn(history, day, len(history)-1) {
		day--
	}
	return day
}

func checkLists(t *testing.T, l []string, catches []api.Catch, alive, lives, first []int) {
	t.Helper()
	if e := count.ValidateHistories(l); e != api.OK {
		t.Fatalf("ValidateHistories(%q): %d", l, e)
	}
	got, e := count.Catches(l)
	if !slices.Equal(got, catches) || e != api.OK {
		t.Fatalf("Catches(%q): %v, %d, want %v", l, got, e, catches)
	}
	if e := count.ValidateDays(got); e != api.OK {
		t.Fatalf("ValidateDays of the catches of %q: %d", l, e)
	}
	gotAlive, e := count.Alive(l)
	if !slices.Equal(gotAlive, alive) || e != api.OK {
		t.Fatalf("Alive(%q): %v, %d, want %v", l, gotAlive, e, alive)
	}
	gotLives, e := count.Lives(l)
	if !slices.Equal(gotLives, lives) || e != api.OK || total(gotLives) != total(gotAlive) {
		t.Fatalf("Lives(%q): %v, %d, want %v; the sum of Alive is %d", l, gotLives, e, lives, total(gotAlive))
	}
	gotFirst, e := count.First(l)
	if !slices.Equal(gotFirst, first) || e != api.OK {
		t.Fatalf("First(%q): %v, %d, want %v", l, gotFirst, e, first)
	}
	for day, c := range got {
		if c.Marked != total(gotFirst[:day]) {
			t.Fatalf("Catches(%q): %v, First: %v", l, got, gotFirst)
		}
	}
}

func checkShares(t *testing.T, l []string, days int) {
	t.Helper()
	for _, day := range append(slices.Clone(notNumbers), days, days+1, 8, 60) {
		if day >= 0 && day < days {
			continue
		}
		if r, e := count.Share(l, day); r != (api.Rat{}) || e != api.ErrArg {
			t.Fatalf("Share(%q, %d): %v, %d", l, day, r, e)
		}
	}
	for day := range days {
		r, e := count.Share(l, day)
		caught := number(l, func(h string) bool { return caughtIn(h, day, day) })
		later := number(l, func(h string) bool { return caughtIn(h, day, day) && caughtIn(h, day+1, days-1) })
		if caught == 0 {
			if r != (api.Rat{}) || e != api.ErrZero {
				t.Fatalf("Share(%q, %d): %v, %d", l, day, r, e)
			}
		} else if want := ratOf(later, caught); !isRat(r, want) || e != api.OK {
			t.Fatalf("Share(%q, %d): %v, %d, want %v", l, day, r, e, want)
		}
	}
}

func TestSmallHistories(t *testing.T) {
	smallHistories(func(l []string) { checkHistories(t, l) })
}

func TestLargeHistories(t *testing.T) {
	largeHistories(400, func(l []string) { checkHistories(t, l) })
	checkHistories(t, repeated("11111111", 60))
	checkHistories(t, repeated("00000001", 60))
	checkHistories(t, append(repeated("10000001", 59), "00010000"))
}

func TestShare(t *testing.T) {
	for _, x := range []struct {
		l    []string
		day  int
		want api.Rat
		e    api.Errno
	}{
		{[]string{"110", "100"}, 0, api.Rat{Num: 1, Den: 2}, api.OK},
		{[]string{"101", "011"}, 2, api.Rat{Num: 0, Den: 1}, api.OK},
		{[]string{"1111", "1100", "0101", "0111"}, 1, api.Rat{Num: 3, Den: 4}, api.OK},
		{[]string{"01"}, 0, api.Rat{}, api.ErrZero},
		{[]string{"10"}, 1, api.Rat{}, api.ErrZero},
		{[]string{"01"}, 2, api.Rat{}, api.ErrArg},
		{[]string{"01"}, -1, api.Rat{}, api.ErrArg},
		{nil, 0, api.Rat{}, api.ErrArg},
		{[]string{}, 0, api.Rat{}, api.ErrArg},
	} {
		if r, e := count.Share(x.l, x.day); r != x.want || e != x.e {
			t.Errorf("Share(%q, %d): %v, %d, want %v, %d", x.l, x.day, r, e, x.want, x.e)
		}
	}
}
