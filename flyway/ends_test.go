package flyway_test

import (
	"math/big"
	"slices"
	"testing"

	"wigeon/api"
	"wigeon/flyway"
)

func TestEnds(t *testing.T) {
	for _, x := range []struct {
		c    [][]int
		want []int
	}{
		{line(), []int{2}}, {fork(), []int{1, 2}}, {walk(), []int{0, 3}}, {ring(), nil}, {trap(), []int{1}},
		{[][]int{{3}}, []int{0}}, {[][]int{{2, 1}, {1, 0}}, nil}, {[][]int{{2, 0}, {0, 1}}, []int{0, 1}},
	} {
		if l, e := flyway.Ends(x.c); !slices.Equal(l, x.want) || e != api.OK {
			t.Errorf("Ends(%v): %v, %d, want %v", x.c, l, e, x.want)
		}
	}
	chains(func(c [][]int) {
		if l, e := flyway.Ends(c); !slices.Equal(l, wantEnds(c)) || e != api.OK {
			t.Fatalf("Ends(%v): %v, %d, want %v", c, l, e, wantEnds(c))
		}
	})
}

func TestLeads(t *testing.T) {
	for i, want := range [][]int{{0, 1, 2, 3}, {1}, {2, 3}, {2, 3}, {0, 1, 2, 3, 4}} {
		if l, e := flyway.Leads(trap(), i); !slices.Equal(l, want) || e != api.OK {
			t.Errorf("Leads(%v, %d): %v, %d, want %v", trap(), i, l, e, want)
		}
	}
	chains(func(c [][]int) {
		for i, leads := range wantLeads(c) {
			var want []int
			for j, does := range leads {
				if does {
					want = append(want, j)
				}
			}
			if l, e := flyway.Leads(c, i); !slices.Equal(l, want) || e != api.OK {
				t.Fatalf("Leads(%v, %d): %v, %d, want %v", c, i, l, e, want)
			}
		}
	})
}

func TestIsSure(t *testing.T) {
	for i, want := range []bool{false, true, false, false, false} {
		if is, e := flyway.IsSure(trap(), i); is != want || e != api.OK {
			t.Errorf("IsSure(%v, %d): %t, %d", trap(), i, is, e)
		}
	}
	sure, unsure := 0, 0
	chains(func(c [][]int) {
		for i := range c {
			want := wantIsSure(c, i)
			if is, e := flyway.IsSure(c, i); is != want || e != api.OK {
				t.Fatalf("IsSure(%v, %d): %t, %d", c, i, is, e)
			}
			if want {
				sure++
			} else {
				unsure++
			}
		}
	})
	if sure < 1000 || unsure < 1000 {
		t.Errorf("%d places are sure, %d are not", sure, unsure)
	}
}

func TestEndExamples(t *testing.T) {
	half, none, one := api.Rat{Num: 1, Den: 2}, api.Rat{Num: 0, Den: 1}, api.Rat{Num: 1, Den: 1}
	for _, x := range []struct {
		c    [][]int
		i, j int
		want api.Rat
	}{
		{fork(), 0, 1, half}, {fork(), 0, 2, half}, {fork(), 0, 0, none}, {fork(), 1, 1, one}, {fork(), 1, 2, none}, {fork(), 1, 0, none},
		{walk(), 1, 0, api.Rat{Num: 3, Den: 7}}, {walk(), 1, 3, api.Rat{Num: 4, Den: 7}}, {walk(), 2, 3, api.Rat{Num: 6, Den: 7}}, {walk(), 1, 2, none},
		{trap(), 1, 1, one}, {trap(), 1, 2, none}, {[][]int{{3}}, 0, 0, one},
	} {
		if r, e := flyway.EndChance(x.c, x.i, x.j); r != x.want || e != api.OK {
			t.Errorf("EndChance(%v, %d, %d): %v, %d, want %v", x.c, x.i, x.j, r, e, x.want)
		}
	}
	for i, want := range []api.Rat{{Num: 4, Den: 1}, {Num: 2, Den: 1}, none} {
		if r, e := flyway.Time(line(), i); r != want || e != api.OK {
			t.Errorf("Time(%v, %d): %v, %d, want %v", line(), i, r, e, want)
		}
	}
	for _, x := range []struct {
		i, j int
		want api.Rat
	}{{0, 0, api.Rat{Num: 2, Den: 1}}, {0, 1, api.Rat{Num: 2, Den: 1}}, {1, 0, none}, {1, 1, api.Rat{Num: 2, Den: 1}}, {2, 0, none}} {
		if r, e := flyway.Visits(line(), x.i, x.j); r != x.want || e != api.OK {
			t.Errorf("Visits(%v, %d, %d): %v, %d, want %v", line(), x.i, x.j, r, e, x.want)
		}
	}
	// A place that is not sure is never visited from one that is.
	if r, e := flyway.Visits(trap(), 1, 2); r != none || e != api.OK {
		t.Errorf("Visits(%v, 1, 2): %v, %d", trap(), r, e)
	}
}

// TestEndsOfChains compares EndChance, Visits and Time with what forests say,
// and tests what follows from each other, the second half of S6 among it.
func TestEndsOfChains(t *testing.T) {
	zero, one := new(big.Rat), big.NewRat(1, 1)
	chains(func(c [][]int) {
		chances, visits := wantEndChances(c), wantVisits(c)
		for _, i := range surePlaces(c) {
			ends, time := new(big.Rat), new(big.Rat)
			for j := range c {
				r, e := flyway.EndChance(c, i, j)
				if !isRat(r, chances[i][j]) || e != api.OK {
					t.Fatalf("EndChance(%v, %d, %d): %v, %d, want %v", c, i, j, r, e, chances[i][j])
				}
				if !wantIsEnd(c, j) {
					if !isRat(r, zero) {
						t.Fatalf("EndChance(%v, %d, %d): %v, but %d is no end", c, i, j, r, j)
					}
					v, e := flyway.Visits(c, i, j)
					if !isRat(v, visits[i][j]) || e != api.OK {
						t.Fatalf("Visits(%v, %d, %d): %v, %d, want %v", c, i, j, v, e, visits[i][j])
					}
					time.Add(time, ratOf(v.Num, v.Den))
				}
				ends.Add(ends, ratOf(r.Num, r.Den))
			}
			if ends.Cmp(one) != 0 {
				t.Fatalf("the chances of all ends of %v from %d: %v", c, i, ends)
			}
			if r, e := flyway.Time(c, i); !isRat(r, time) || e != api.OK {
				t.Fatalf("Time(%v, %d): %v, %d, want %v", c, i, r, e, time)
			}
		}
	})
}

func TestNotSure(t *testing.T) {
	chains(func(c [][]int) {
		for i := range c {
			sure := wantIsSure(c, i)
			if r, e := flyway.Time(c, i); !sure && (r != (api.Rat{}) || e != api.ErrState) {
				t.Fatalf("Time(%v, %d): %v, %d", c, i, r, e)
			}
			for j := range c {
				if r, e := flyway.EndChance(c, i, j); !sure && (r != (api.Rat{}) || e != api.ErrState) {
					t.Fatalf("EndChance(%v, %d, %d): %v, %d", c, i, j, r, e)
				}
				r, e := flyway.Visits(c, i, j)
				if (!sure || wantIsEnd(c, j)) && (r != (api.Rat{}) || e != api.ErrState) {
					t.Fatalf("Visits(%v, %d, %d): %v, %d", c, i, j, r, e)
				}
			}
		}
	})
}
