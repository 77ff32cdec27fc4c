package flyway_test

import (
	"math"
	"math/big"
	"slices"
	"testing"

	"wigeon/api"
	"wigeon/flyway"
)

func TestEndTable(t *testing.T) {
	for _, x := range []struct {
		c    [][]int
		want api.Table
	}{
		{walk(), api.Table{Den: 7, Num: [][]int{{7, 0, 0, 0}, {3, 0, 0, 4}, {1, 0, 0, 6}, {0, 0, 0, 7}}}},
		{fork(), api.Table{Den: 2, Num: [][]int{{0, 1, 1}, {0, 2, 0}, {0, 0, 2}}}},
		{line(), api.Table{Den: 1, Num: [][]int{{0, 0, 1}, {0, 0, 1}, {0, 0, 1}}}},
		{[][]int{{3}}, api.Table{Den: 1, Num: [][]int{{1}}}},
		// The chances are halves and thirds.
		{[][]int{{0, 0, 1, 1}, {0, 0, 1, 2}, {0, 0, 1, 0}, {0, 0, 0, 1}}, api.Table{Den: 6, Num: [][]int{{0, 0, 3, 3}, {0, 0, 2, 4}, {0, 0, 6, 0}, {0, 0, 0, 6}}}},
	} {
		if r, e := flyway.EndTable(x.c); r.Den != x.want.Den || !areEqual(r.Num, x.want.Num) || e != api.OK {
			t.Errorf("EndTable(%v): %v, %d, want %v", x.c, r, e, x.want)
		}
	}
}

// TestEndTableOfChains tests that the table has the chances of all ends, and
// that no smaller denominator has them.
func TestEndTableOfChains(t *testing.T) {
	tables, greatest := 0, 0
	chains(func(c [][]int) {
		r, e := flyway.EndTable(c)
		if !wantAllSure(c) {
			if r.Den != 0 || len(r.Num) != 0 || e != api.ErrState {
				t.Fatalf("EndTable(%v): %v, %d", c, r, e)
			}
			return
		}
		if e != api.OK || r.Den < 1 || len(r.Num) != len(c) {
			t.Fatalf("EndTable(%v): %v, %d", c, r, e)
		}
		common := big.NewInt(int64(r.Den))
		for i, chances := range wantEndChances(c) {
			if len(r.Num[i]) != len(c) {
				t.Fatalf("EndTable(%v): %v", c, r)
			}
			for j, want := range chances {
				if ratOf(r.Num[i][j], r.Den).Cmp(want) != 0 {
					t.Fatalf("EndTable(%v): %v, want %v from %d to %d", c, r, want, i, j)
				}
				common.GCD(nil, nil, common, big.NewInt(int64(r.Num[i][j])))
			}
		}
		if common.Int64() != 1 {
			t.Fatalf("EndTable(%v): %v, all can be divided by %v", c, r, common)
		}
		if e := flyway.CheckEnds(c, r); e != api.OK {
			t.Fatalf("CheckEnds(%v, %v): %d", c, r, e)
		}
		tables, greatest = tables+1, max(greatest, r.Den)
	})
	if tables < 500 || greatest < 1000 {
		t.Errorf("%d tables, the greatest denominator is %d", tables, greatest)
	}
}

// times returns a table with all numbers multiplied.
func times(table api.Table, n int) api.Table {
	r := api.Table{Den: table.Den * n, Num: copyOf(table.Num)}
	for _, row := range r.Num {
		for j := range row {
			row[j] *= n
		}
	}
	return r
}

func TestCheckEndsOfChains(t *testing.T) {
	chains(func(c [][]int) {
		table, e := flyway.EndTable(c)
		if e != api.OK {
			return
		}
		for _, n := range []int{1, 2, 5, 1000, api.MaxTable / table.Den} {
			if e := flyway.CheckEnds(c, times(table, n)); e != api.OK {
				t.Fatalf("CheckEnds(%v, %v): %d", c, times(table, n), e)
			}
		}
		if e := flyway.CheckEnds(c, times(table, api.MaxTable/table.Den+1)); e != api.ErrArg {
			t.Fatalf("CheckEnds(%v, %v): %d", c, times(table, api.MaxTable/table.Den+1), e)
		}
		most := times(table, api.MaxTable/table.Den)
		for i := range c {
			for j := range c {
				for _, by := range []int{-1, 1} {
					wrong := times(most, 1)
					wrong.Num[i][j] += by
					want := api.ErrProof
					if wrong.Num[i][j] < 0 || wrong.Num[i][j] > wrong.Den {
						want = api.ErrArg
					}
					if e := flyway.CheckEnds(c, wrong); e != want {
						t.Fatalf("CheckEnds(%v, %v): %d, want %d", c, wrong, e, want)
					}
				}
			}
		}
	})
}

// TestCheckEndsOfSmallTables tests, with all tables that there are, that just
// those are accepted that have the chances of all ends.
func TestCheckEndsOfSmallTables(t *testing.T) {
	allChains(2, 3, func(c [][]int) {
		if !wantAllSure(c) {
			return
		}
		chances := wantEndChances(c)
		for den := 1; den <= 3; den++ {
			for n := range (den + 1) * (den + 1) * (den + 1) * (den + 1) {
				table := api.Table{Den: den, Num: make([][]int, 2)}
				want := api.OK
				for i := range 2 {
					for j := range 2 {
						table.Num[i] = append(table.Num[i], n%(den+1))
						n /= den + 1
						if ratOf(table.Num[i][j], den).Cmp(chances[i][j]) != 0 {
							want = api.ErrProof
						}
					}
				}
				if e := flyway.CheckEnds(c, table); e != want {
					t.Fatalf("CheckEnds(%v, %v): %d, want %d", c, table, e, want)
				}
			}
		}
	})
}

func TestCheckEndsErrors(t *testing.T) {
	fine := [][]int{{0, 1, 1}, {0, 2, 0}, {0, 0, 2}}
	with := func(i, j, n int) [][]int {
		rows := copyOf(fine)
		rows[i][j] = n
		return rows
	}
	for _, x := range []struct {
		den  int
		num  [][]int
		want api.Errno
	}{
		{2, fine, api.OK},
		{0, fine, api.ErrArg}, {-2, fine, api.ErrArg}, {1, fine, api.ErrArg}, {math.MinInt, fine, api.ErrArg},
		{0, [][]int{{0, 0, 0}, {0, 0, 0}, {0, 0, 0}}, api.ErrArg},
		{api.MaxTable + 1, fine, api.ErrArg}, {math.MaxInt, fine, api.ErrArg}, {1 << 32, fine, api.ErrArg},
		{2, nil, api.ErrArg}, {2, fine[:2], api.ErrArg}, {2, append(copyOf(fine), []int{0, 0, 2}), api.ErrArg},
		{2, [][]int{{0, 1}, {0, 2}, {0, 0}}, api.ErrArg}, {2, [][]int{{0, 1, 1}, {0, 2, 0}, {0, 0}}, api.ErrArg},
		{2, [][]int{{0, 1, 1, 0}, {0, 2, 0}, {0, 0, 2}}, api.ErrArg}, {2, [][]int{{0, 1, 1}, {0, 2, 0, 0}, {0, 0, 2}}, api.ErrArg}, {2, make([][]int, 3), api.ErrArg},
		{2, with(2, 2, 3), api.ErrArg}, {2, with(2, 0, -1), api.ErrArg}, {2, with(0, 0, math.MinInt), api.ErrArg}, {2, with(1, 2, math.MaxInt), api.ErrArg}, {2, with(0, 1, 1+1<<32), api.ErrArg},
		{4, fine, api.ErrProof}, {3, fine, api.ErrProof}, {api.MaxTable, fine, api.ErrProof},
		{2, with(0, 0, 1), api.ErrProof}, {2, with(0, 1, 0), api.ErrProof}, {2, with(1, 1, 1), api.ErrProof}, {2, with(1, 0, 1), api.ErrProof}, {2, with(2, 1, 2), api.ErrProof},
		// All is examined for numbers out of range before anything is proved.
		{2, [][]int{{0, 0, 0}, {1, 1, 1}, {0, 0, 3}}, api.ErrArg}, {2, [][]int{{2, 2, 2}, {0, 2, 0}, {0, 0}}, api.ErrArg},
		// Numbers that agree with each other, but not with the ends.
		{2, [][]int{{0, 0, 0}, {0, 0, 0}, {0, 0, 0}}, api.ErrProof}, {2, [][]int{{1, 1, 1}, {1, 1, 1}, {1, 1, 1}}, api.ErrProof}, {2, [][]int{{2, 0, 0}, {2, 0, 0}, {2, 0, 0}}, api.ErrProof},
	} {
		table := api.Table{Den: x.den, Num: x.num}
		given := copyOf(x.num)
		if e := flyway.CheckEnds(fork(), table); e != x.want {
			t.Errorf("CheckEnds(%v, %v): %d, want %d", fork(), table, e, x.want)
		}
		if !areEqual(x.num, given) {
			t.Errorf("%v has become %v", given, x.num)
		}
		// A chain with a place that is not sure has no table, right or wrong.
		for _, c := range [][][]int{{{1, 0, 0}, {0, 0, 1}, {0, 1, 0}}, {{0, 1, 0}, {0, 0, 1}, {1, 0, 0}}} {
			if e := flyway.CheckEnds(c, table); e != api.ErrState {
				t.Errorf("CheckEnds(%v, %v): %d", c, table, e)
			}
		}
	}
	most := api.Table{Den: api.MaxTable, Num: [][]int{{api.MaxTable}}}
	if e := flyway.CheckEnds([][]int{{1}}, most); e != api.OK {
		t.Errorf("CheckEnds of one place, %v: %d", most, e)
	}
	// A third is not exact.
	third := api.Table{Den: api.MaxTable, Num: [][]int{{0, 333333333, 666666667}, {0, api.MaxTable, 0}, {0, 0, api.MaxTable}}}
	if e := flyway.CheckEnds([][]int{{0, 1, 2}, {0, 1, 0}, {0, 0, 1}}, third); e != api.ErrProof {
		t.Errorf("CheckEnds of a third, %v: %d", third, e)
	}
}

// TestSmallestTable tests that no table with a smaller denominator is accepted.
func TestSmallestTable(t *testing.T) {
	look := func(c [][]int) {
		table, e := flyway.EndTable(c)
		if e != api.OK || table.Den > 300 {
			return
		}
		for den := 1; den < table.Den; den++ {
			smaller := times(table, 1)
			smaller.Den = den
			for _, row := range smaller.Num {
				for j, n := range row {
					row[j] = n * den / table.Den
				}
			}
			if e := flyway.CheckEnds(c, smaller); e != api.ErrProof {
				t.Fatalf("CheckEnds(%v, %v): %d", c, smaller, e)
			}
		}
	}
	smallChains(look)
	someChains(300, look)
	if table, _ := flyway.EndTable(walk()); !slices.Equal(table.Num[2], []int{1, 0, 0, 6}) {
		t.Errorf("EndTable(%v): %v", walk(), table)
	}
}
