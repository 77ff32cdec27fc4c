package screen_test

import (
	"slices"
	"testing"

	"wigeon/api"
	"wigeon/screen"
)

// fen is the third example of the chapter: a box that is all dark.
func fen() ([]api.Screen, []api.Point, api.Box) {
	return []api.Screen{sc(2, -3, 2, 3)}, []api.Point{pt(5, 0)}, api.Box{Lo: pt(0, -1), Hi: pt(1, 1)}
}

func TestDark(t *testing.T) {
	l, eyes, box := fen()
	for i, c := range []struct {
		l    []api.Screen
		eyes []api.Point
		b    api.Box
		want int
	}{
		{l, eyes, box, 6},
		{nil, eyes, box, 0},
		{l, nil, box, 6},
		{l, append(eyes, pt(-1, 0)), box, 0},
		{l, eyes, api.Box{Lo: pt(1, 0), Hi: pt(3, 0)}, 2},
		{l, []api.Point{pt(2, 0)}, api.Box{Hi: pt(20, 20)}, 441},
		{nil, nil, api.Box{Lo: pt(-100, -100), Hi: pt(-80, -80)}, 441},
		{nil, nil, api.Box{Lo: pt(80, 100), Hi: pt(100, 100)}, 21},
		{nil, []api.Point{pt(7, 7)}, api.Box{Lo: pt(7, 7), Hi: pt(7, 7)}, 0},
		{[]api.Screen{sc(7, 7, 8, 7)}, []api.Point{pt(7, 7)}, api.Box{Lo: pt(7, 7), Hi: pt(7, 7)}, 1},
	} {
		if n, e := screen.Dark(c.l, c.eyes, c.b); n != c.want || e != api.OK {
			t.Errorf("%d: %d, %d, want %d", i, n, e, c.want)
		}
	}
}

// TestWaysOfScenes compares all ways from some points with those that are found
// in the plainest way.
func TestWaysOfScenes(t *testing.T) {
	for _, s := range scenes(60) {
		points := boxPoints(s.b)
		dark := 0
		for i, from := range points {
			steps := wantSteps(s.l, s.eyes, s.b, from)
			if _, hidden := steps[from]; hidden {
				dark++
			}
			if i%7 != 0 {
				continue
			}
			checkReach(t, s, from, steps)
			for _, to := range points {
				checkShortest(t, s, from, to, steps)
			}
		}
		if n, e := screen.Dark(s.l, s.eyes, s.b); n != dark || e != api.OK {
			t.Fatalf("Dark of %v: %d, %d, want %d", s, n, e, dark)
		}
	}
}

func checkReach(t *testing.T, s scene, from api.Point, steps map[api.Point]int) {
	t.Helper()
	want := slices.DeleteFunc(boxPoints(s.b), func(p api.Point) bool {
		_, ok := steps[p]
		return !ok
	})
	got, e := screen.Reach(s.l, s.eyes, s.b, from)
	if !slices.Equal(got, want) || e != api.OK {
		t.Fatalf("Reach of %v from %v: %v, %d, want %v", s, from, got, e, want)
	}
	for _, p := range got {
		if again, e := screen.Reach(s.l, s.eyes, s.b, p); !slices.Equal(again, got) || e != api.OK {
			t.Fatalf("Reach of %v from %v: %v, %d, but from %v %v", s, p, again, e, from, got)
		}
	}
}

func checkShortest(t *testing.T, s scene, from, to api.Point, steps map[api.Point]int) {
	t.Helper()
	want, found := steps[to]
	if n, ok, e := screen.Steps(s.l, s.eyes, s.b, from, to); n != want || ok != found || e != api.OK {
		t.Fatalf("Steps of %v from %v to %v: %d, %t, %d, want %d, %t", s, from, to, n, ok, e, want, found)
	}
	way, ok, e := screen.Way(s.l, s.eyes, s.b, from, to)
	if ok != found || e != api.OK {
		t.Fatalf("Way of %v from %v to %v: %t, %d", s, from, to, ok, e)
	}
	if !found {
		if len(way) != 0 {
			t.Fatalf("Way of %v from %v to %v: %v", s, from, to, way)
		}
		return
	}
	if len(way) != want+1 || way[0] != from || way[want] != to {
		t.Fatalf("Way of %v from %v to %v: %v", s, from, to, way)
	}
	for i, p := range way {
		if len(wantSeers(s.l, s.eyes, p)) > 0 || i > 0 && !(areNeighbors(way[i-1], p) && wantSees(s.l, way[i-1], p)) {
			t.Fatalf("Way of %v from %v to %v: %v is wrong at %d", s, from, to, way, i)
		}
	}
	if n, e := screen.CheckWay(s.l, s.eyes, s.b, way); n != want || e != api.OK {
		t.Fatalf("CheckWay of %v, %v: %d, %d", s, way, n, e)
	}
	again, _, _ := screen.Way(s.l, s.eyes, s.b, from, to)
	if !slices.Equal(way, again) {
		t.Fatalf("Way of %v from %v to %v: %v, then %v", s, from, to, way, again)
	}
}

func TestReach(t *testing.T) {
	l, eyes, box := fen()
	wall := append(l, sc(-9, 0, 1, 0))
	for i, c := range []struct {
		l    []api.Screen
		from api.Point
		want []api.Point
	}{
		{l, pt(1, 0), []api.Point{pt(0, -1), pt(0, 0), pt(0, 1), pt(1, -1), pt(1, 0), pt(1, 1)}},
		{wall, pt(0, 1), []api.Point{pt(0, 1), pt(1, 1)}},
		{wall, pt(1, -1), []api.Point{pt(0, -1), pt(1, -1)}},
		// On a screen one is hidden, but each step is cut.
		{wall, pt(1, 0), []api.Point{pt(1, 0)}},
		{nil, pt(0, 1), nil},
	} {
		if got, e := screen.Reach(c.l, eyes, box, c.from); !slices.Equal(got, c.want) || e != api.OK {
			t.Errorf("%d: %v, %d", i, got, e)
		}
	}
}

func TestStepsAndWay(t *testing.T) {
	l, eyes, box := fen()
	wall := append(l, sc(-9, 0, 0, 0))
	for i, c := range []struct {
		l        []api.Screen
		from, to api.Point
		steps    int
		found    bool
	}{
		{l, pt(0, -1), pt(1, 1), 3, true},
		{l, pt(1, 1), pt(0, -1), 3, true},
		{l, pt(1, 1), pt(1, 1), 0, true},
		{wall, pt(0, -1), pt(0, 1), 4, true},
		{wall, pt(0, -1), pt(0, 0), 0, false},
		{wall, pt(0, 0), pt(0, -1), 0, false},
		{wall, pt(0, 0), pt(0, 0), 0, true},
		{nil, pt(0, 0), pt(0, 0), 0, false},
	} {
		if n, ok, e := screen.Steps(c.l, eyes, box, c.from, c.to); n != c.steps || ok != c.found || e != api.OK {
			t.Errorf("Steps %d: %d, %t, %d", i, n, ok, e)
		}
		way, ok, e := screen.Way(c.l, eyes, box, c.from, c.to)
		if ok != c.found || e != api.OK || c.found && len(way) != c.steps+1 || !c.found && len(way) != 0 {
			t.Errorf("Way %d: %v, %t, %d", i, way, ok, e)
		}
	}
}

// TestLongWay goes through a box that combs make a single long way.
func TestLongWay(t *testing.T) {
	var l []api.Screen
	for i := range 10 {
		l = append(l, sc(2*i+1, 1-i%2, 2*i+1, 20-i%2))
	}
	b := api.Box{Hi: pt(20, 20)}
	n, ok, e := screen.Steps(l, nil, b, pt(0, 20), pt(20, 0))
	if want := wantSteps(l, nil, b, pt(0, 20))[pt(20, 0)]; n != want || want < 200 || !ok || e != api.OK {
		t.Errorf("%d, %t, %d, want %d", n, ok, e, want)
	}
	way, _, _ := screen.Way(l, nil, b, pt(0, 20), pt(20, 0))
	if m, e := screen.CheckWay(l, nil, b, way); m != n || e != api.OK {
		t.Errorf("%d, %d, want %d", m, e, n)
	}
}

func TestCheckWay(t *testing.T) {
	l, eyes, box := fen()
	wall := append(l[:1:1], sc(-5, 0, 0, 0))
	seen := append(eyes[:1:1], pt(0, 1))
	round := []api.Point{pt(0, 0), pt(1, 0), pt(1, 1), pt(0, 1), pt(0, 0)}
	for i, c := range []struct {
		l    []api.Screen
		eyes []api.Point
		way  []api.Point
		n    int
		want api.Errno
	}{
		{l, eyes, nil, 0, api.ErrStep},
		{nil, eyes, nil, 0, api.ErrStep},
		{l, eyes, []api.Point{pt(0, 0)}, 0, api.OK},
		{l, eyes, round, 4, api.OK},
		{l, eyes, slices.Repeat(round[:4], 5000), 19999, api.OK},
		{l, eyes, append(slices.Repeat(round[:4], 5000), pt(2, 0)), 20000, api.ErrArg},
		// Each error at the first point that may have it.
		{l, eyes, []api.Point{pt(-1, 0)}, 0, api.ErrArg},
		{nil, eyes, []api.Point{pt(0, 0)}, 0, api.ErrSeen},
		{l, eyes, []api.Point{pt(0, 0), pt(1, 1)}, 1, api.ErrStep},
		{l, eyes, []api.Point{pt(0, 0), pt(0, 0)}, 1, api.ErrStep},
		{l, eyes, []api.Point{pt(0, -1), pt(0, 1)}, 1, api.ErrStep},
		{wall, eyes, []api.Point{pt(0, 1), pt(0, 0)}, 1, api.ErrCut},
		{wall, eyes, []api.Point{pt(0, 0), pt(0, 1)}, 1, api.ErrCut},
		{l, eyes, append(round, pt(-1, 0)), 5, api.ErrArg},
		{wall, eyes, round, 1, api.ErrCut},
		{wall, eyes, round[1:], 3, api.ErrCut},
		// Point by point: the first point with an error decides.
		{nil, eyes, []api.Point{pt(0, 0), pt(-1, 0)}, 0, api.ErrSeen},
		{l, eyes, []api.Point{pt(0, 0), pt(1, 1), pt(-1, 0)}, 1, api.ErrStep},
		{wall, eyes, []api.Point{pt(0, 0), pt(0, 1), pt(-1, 0)}, 1, api.ErrCut},
		// Of one point: not in the box, seen, no step, cut.
		{nil, eyes, []api.Point{pt(7, 7)}, 0, api.ErrArg},
		{l, eyes, []api.Point{pt(0, 0), pt(7, 7)}, 1, api.ErrArg},
		{wall, seen, []api.Point{pt(0, 0), pt(1, 1)}, 1, api.ErrSeen},
		{wall, seen, []api.Point{pt(0, 0), pt(0, 1)}, 1, api.ErrSeen},
		{wall, eyes, []api.Point{pt(0, 1), pt(0, -1)}, 1, api.ErrStep},
	} {
		if n, e := screen.CheckWay(c.l, c.eyes, box, c.way); n != c.n || e != c.want {
			t.Errorf("%d: %d, %d, want %d, %d", i, n, e, c.n, c.want)
		}
	}
	for _, p := range notPoints {
		if n, e := screen.CheckWay(l, eyes, box, []api.Point{pt(0, 0), p}); n != 1 || e != api.ErrArg {
			t.Errorf("%v: %d, %d", p, n, e)
		}
	}
}

// wrongBoxes are boxes that are not valid.
func wrongBoxes() []api.Box {
	boxes := []api.Box{
		{Lo: pt(1, 0)}, {Lo: pt(0, 1)}, {Hi: pt(21, 0)}, {Hi: pt(0, 21)}, {Lo: pt(-100, 0), Hi: pt(100, 0)},
		{Lo: pt(101, 101), Hi: pt(102, 102)}, {Lo: pt(90, 0), Hi: pt(101, 0)}, {Lo: pt(0, -101), Hi: pt(0, -90)},
	}
	for _, p := range notPoints {
		boxes = append(boxes, api.Box{Lo: p}, api.Box{Hi: p}, api.Box{Lo: p, Hi: p})
	}
	return boxes
}

func TestErrorsOfHiddenWays(t *testing.T) {
	box, in := api.Box{Hi: pt(3, 3)}, pt(1, 1)
	nine := make([]api.Point, 9)
	for _, c := range screenErrors() {
		wantBoxError(t, c.l, nine, wrongBoxes()[0], c.want)
		wantWayError(t, c.l, nine, wrongBoxes()[0], pt(101, 0), in, c.want)
		wantBoxError(t, c.l, nil, box, c.want)
		wantWayError(t, c.l, nil, box, in, pt(7, 7), c.want)
	}
	for _, b := range wrongBoxes() {
		wantBoxError(t, nil, nine, b, api.ErrLarge)
		wantBoxError(t, nil, nil, b, api.ErrArg)
		wantWayError(t, nil, nine, b, in, in, api.ErrLarge)
		wantWayError(t, nil, nil, b, in, in, api.ErrArg)
		wantWayError(t, nil, nil, b, pt(50, 50), in, api.ErrArg)
	}
	for _, p := range notPoints {
		wantBoxError(t, nil, []api.Point{in, p}, box, api.ErrArg)
		wantWayError(t, nil, []api.Point{p}, box, pt(7, 7), in, api.ErrArg)
		wantWayError(t, nil, nine, box, p, in, api.ErrLarge)
		wantWayError(t, nil, nil, box, p, in, api.ErrArg)
		wantWayError(t, nil, nil, box, in, p, api.ErrArg)
		// That a point is none comes before that another is not in the box.
		wantWayError(t, nil, nil, box, p, pt(7, 7), api.ErrArg)
		wantWayError(t, nil, nil, box, pt(7, 7), p, api.ErrArg)
	}
	wantBoxError(t, nil, append(nine, pt(101, 0)), box, api.ErrLarge)
	for _, p := range []api.Point{pt(-1, 0), pt(4, 0), pt(0, -1), pt(0, 4), pt(100, 100)} {
		wantWayError(t, nil, nil, box, p, in, api.ErrNone)
		wantWayError(t, nil, nil, box, in, p, api.ErrNone)
		// Where from is seen, too.
		wantWayError(t, nil, []api.Point{in}, box, in, p, api.ErrNone)
	}
}

func wantBoxError(t *testing.T, l []api.Screen, eyes []api.Point, b api.Box, want api.Errno) {
	t.Helper()
	if n, e := screen.Dark(l, eyes, b); n != 0 || e != want {
		t.Errorf("Dark(%v, %v, %v): %d, %d, want %d", l, eyes, b, n, e, want)
	}
	for _, way := range [][]api.Point{nil, {pt(0, 0), pt(101, 0)}, make([]api.Point, 20)} {
		if n, e := screen.CheckWay(l, eyes, b, way); n != 0 || e != want {
			t.Errorf("CheckWay(%v, %v, %v, %v): %d, %d, want %d", l, eyes, b, way, n, e, want)
		}
	}
}

func wantWayError(t *testing.T, l []api.Screen, eyes []api.Point, b api.Box, from, to api.Point, want api.Errno) {
	t.Helper()
	if n, ok, e := screen.Steps(l, eyes, b, from, to); n != 0 || ok || e != want {
		t.Errorf("Steps(%v, %v, %v, %v, %v): %d, %t, %d, want %d", l, eyes, b, from, to, n, ok, e, want)
	}
	if way, ok, e := screen.Way(l, eyes, b, from, to); len(way) != 0 || ok || e != want {
		t.Errorf("Way(%v, %v, %v, %v, %v): %v, %t, %d, want %d", l, eyes, b, from, to, way, ok, e, want)
	}
	if to != pt(1, 1) {
		return
	}
	if p, e := screen.Reach(l, eyes, b, from); len(p) != 0 || e != want {
		t.Errorf("Reach(%v, %v, %v, %v): %v, %d, want %d", l, eyes, b, from, p, e, want)
	}
}
