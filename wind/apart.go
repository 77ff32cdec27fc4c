package wind

import "wigeon/api"

// CheckApart returns api.OK if no pipe can be worked at two of the winds.
func CheckApart(l []api.Arc, winds []int) api.Errno {
	if e := ValidatePipes(l); e != api.OK {
		return e
	}
	if !isSet(winds, api.Winds) {
		return api.ErrArg
	}
	apart := gather(winds)
	for _, a := range l {
		if (apart & pointsOf(a)).count() > 1 {
			return api.ErrProof
		}
	}
	return api.OK
}

// Apart returns as many winds that are apart as possible, each of them a point
// of some pipe.
func Apart(l []api.Arc) ([]int, api.Errno) {
	if e := ValidatePipes(l); e != api.OK {
		return nil, e
	}
	most := mostApart(l)
	return list(most[everyPipe(l)].has), api.OK
}

// mostApart returns, for each set of pipes, a greatest set of winds that are
// apart and at each of which some of these pipes and no others can be worked.
func mostApart(l []api.Arc) []numbers {
	busy := busyPipes(l)
	most := make([]numbers, 1<<len(l))
	for pipes := range most {
		for wind, used := range busy {
			if used == 0 || used&^pipes != 0 {
				continue
			}
			// The pipes that this wind leaves are a smaller number: their
			// winds are known already.
			winds := most[pipes&^used] | 1<<wind
			if winds.count() > most[pipes].count() {
				most[pipes] = winds
			}
		}
	}
	return most
}

// busyPipes returns, for each wind, the pipes that can be worked at it, as a
// place in a table of all sets of pipes.
func busyPipes(l []api.Arc) [api.Winds]int {
	var busy [api.Winds]int
	for wind := range api.Winds {
		busy[wind] = int(workable(l, wind))
	}
	return busy
}
