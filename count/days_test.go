package count_test

import (
	"math/rand/v2"
	"slices"
	"testing"

	"wigeon/api"
	"wigeon/count"
)

// mostDays returns as many days, with as many birds, as there can be.
func mostDays() []api.Catch {
	return slices.Repeat([]api.Catch{{Marked: 60, Caught: 60, Again: 60}}, 8)
}

func TestValidateDays(t *testing.T) {
	for _, days := range [][]api.Catch{nil, {}, {{}}, make([]api.Catch, 8), {{Caught: 5}, {Marked: 5, Caught: 4, Again: 2}}, {{Marked: 1, Caught: 1, Again: 1}}, mostDays()} {
		if e := count.ValidateDays(days); e != api.OK {
			t.Errorf("ValidateDays(%v): %d", days, e)
		}
	}
	for _, x := range daysWithErrors() {
		if e := count.ValidateDays(x.days); e != x.e {
			t.Errorf("ValidateDays of %d days, %v: %d, want %d", len(x.days), x.days[:min(len(x.days), 9)], e, x.e)
		}
	}
}

func TestSchnabel(t *testing.T) {
	for _, x := range []struct {
		days []api.Catch
		want api.Rat
	}{
		{[]api.Catch{{Caught: 5}, {Marked: 5, Caught: 4, Again: 2}, {Marked: 7, Caught: 6, Again: 3}}, api.Rat{Num: 62, Den: 5}},
		{[]api.Catch{{Marked: 4, Caught: 5, Again: 2}}, api.Rat{Num: 10, Den: 1}},
		{mostDays(), api.Rat{Num: 60, Den: 1}},
		{append(mostDays()[:7], api.Catch{Marked: 60, Caught: 60}), api.Rat{Num: 480, Den: 7}},
	} {
		if r, e := count.Schnabel(x.days); r != x.want || e != api.OK {
			t.Errorf("Schnabel(%v): %v, %d, want %v", x.days, r, e, x.want)
		}
	}
	for _, days := range [][]api.Catch{nil, {}, {{}}, {{Caught: 5}}, {{Marked: 5, Caught: 5}, {Marked: 60, Caught: 60}}} {
		if r, e := count.Schnabel(days); r != (api.Rat{}) || e != api.ErrZero {
			t.Errorf("Schnabel(%v): %v, %d", days, r, e)
		}
	}
	for _, x := range daysWithErrors() {
		if r, e := count.Schnabel(x.days); r != (api.Rat{}) || e != x.e {
			t.Errorf("Schnabel of %d days, %v: %v, %d, want %d", len(x.days), x.days[:min(len(x.days), 9)], r, e, x.e)
		}
	}
}

func TestSchnabelOfSome(t *testing.T) {
	random := rand.New(rand.NewPCG(6, 4))
	for range 5000 {
		days := make([]api.Catch, random.IntN(9))
		seen, again := 0, 0
		for i := range days {
			c := api.Catch{Marked: random.IntN(61), Caught: random.IntN(61)}
			c.Again = random.IntN(min(c.Marked, c.Caught)+1) * random.IntN(2)
			days[i] = c
			seen += c.Marked * c.Caught
			again += c.Again
		}
		given := slices.Clone(days)
		r, e := count.Schnabel(days)
		if !slices.Equal(days, given) {
			t.Fatalf("%v have become %v", given, days)
		}
		if again == 0 {
			if r != (api.Rat{}) || e != api.ErrZero {
				t.Fatalf("Schnabel(%v): %v, %d", days, r, e)
			}
		} else if want := ratOf(seen, again); !isRat(r, want) || e != api.OK {
			t.Fatalf("Schnabel(%v): %v, %d, want %v", days, r, e, want)
		}
	}
}
