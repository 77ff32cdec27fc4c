package flyway

import "wigeon/api"

// CheckEnds returns api.OK if a table proves the chances of all ends.
func CheckEnds(c [][]int, t api.Table) api.Errno {
	if e := checkAllSure(c); e != api.OK {
		return e
	}
	if !isTable(t, len(c)) {
		return api.ErrArg
	}
	for i := range c {
		if !chain(c).agrees(i, t) {
			return api.ErrProof
		}
	}
	return api.OK
}

// EndTable returns the chances of all ends over their smallest common
// denominator.
func EndTable(c [][]int) (api.Table, api.Errno) {
	if e := checkAllSure(c); e != api.OK {
		return api.Table{}, e
	}
	var columns [][]api.Rat
	den := 1
	for j := range c {
		column := chain(c).endChances(j)
		for _, r := range column {
			den = multiple(den, r.Den)
		}
		columns = append(columns, column)
	}
	t := api.Table{Den: den}
	for i := range c {
		row := make([]int, len(c))
		for j, column := range columns {
			row[j] = column[i].Num * (den / column[i].Den)
		}
		t.Num = append(t.Num, row)
	}
	return t, api.OK
}

// checkAllSure returns the first error of a chain all of whose places are to be
// sure.
func checkAllSure(c [][]int) api.Errno {
	if e := Validate(c); e != api.OK {
		return e
	}
	for i := range c {
		if !chain(c).isSure(i) {
			return api.ErrState
		}
	}
	return api.OK
}

// isTable reports whether a table is one of ends for so many places, whatever
// chances it has.
func isTable(t api.Table, places int) bool {
	if t.Den < 1 || t.Den > api.MaxTable || len(t.Num) != places {
		return false
	}
	for _, row := range t.Num {
		if len(row) != places {
			return false
		}
		for _, n := range row {
			if n < 0 || n > t.Den {
				return false
			}
		}
	}
	return true
}

// agrees reports whether the row i of a table of ends agrees with those of the
// places to which one passes from i.
func (c chain) agrees(i int, t api.Table) bool {
	for j, n := range t.Num[i] {
		if c.isEnd(i) && n != t.Den*oneIf(i == j) {
			return false
		}
		total := 0
		for k, weight := range c.passages(i) {
			total += weight * t.Num[k][j]
		}
		// For an end, this holds by itself.
		if total != c.sum(i)*n {
			return false
		}
	}
	return true
}
