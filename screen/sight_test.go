package screen_test

import (
	"slices"
	"testing"

	"wigeon/api"
	"wigeon/screen"
)

func TestValidate(t *testing.T) {
	for _, l := range [][]api.Screen{
		nil,
		{},
		{sc(0, 0, 0, 5)},
		{sc(0, 5, 0, 0)},
		{sc(-100, -100, 100, 100), sc(100, -100, -100, 100)},
		{sc(1, 2, 3, 4), sc(1, 2, 3, 4), sc(3, 4, 1, 2)},
		manyScreens(),
	} {
		if e := screen.Validate(l); e != api.OK {
			t.Errorf("%v: %d", l, e)
		}
	}
	for name, c := range screenErrors() {
		if e := screen.Validate(c.l); e != c.want {
			t.Errorf("%s: %d, want %d", name, e, c.want)
		}
	}
}

func TestTouchOfAllNearPoints(t *testing.T) {
	points := boxPoints(api.Box{Lo: pt(-1, -1), Hi: pt(2, 2)})
	for _, a := range points {
		for _, b := range points {
			for _, c := range points {
				for _, d := range points {
					if is, e := screen.Touch(a, b, c, d); is != wantTouch(a, b, c, d) || e != api.OK {
						t.Fatalf("Touch(%v, %v, %v, %v): %t, %d", a, b, c, d, is, e)
					}
				}
			}
		}
	}
}

func TestTouch(t *testing.T) {
	for _, c := range []struct {
		a, b, c, d api.Point
		want       bool
	}{
		{pt(0, 0), pt(4, 4), pt(0, 4), pt(4, 0), true},
		// They cross at a place with coordinates that are no integers.
		{pt(0, 0), pt(1, 1), pt(0, 1), pt(1, 0), true},
		{pt(-100, -100), pt(100, 99), pt(-100, -99), pt(100, 100), false},
		{pt(-100, -100), pt(100, 99), pt(-100, -99), pt(100, 98), true},
		// An end on the other line.
		{pt(0, 0), pt(4, 0), pt(2, 0), pt(2, 9), true},
		{pt(0, 0), pt(4, 0), pt(2, 1), pt(2, 9), false},
		{pt(0, 0), pt(4, 0), pt(4, 0), pt(9, 3), true},
		{pt(0, 0), pt(4, 2), pt(2, 1), pt(2, 1), true},
		{pt(0, 0), pt(4, 2), pt(1, 1), pt(1, 1), false},
		// Along each other.
		{pt(0, 0), pt(4, 0), pt(5, 0), pt(9, 0), false},
		{pt(0, 0), pt(4, 0), pt(4, 0), pt(9, 0), true},
		{pt(0, 0), pt(4, 0), pt(9, 0), pt(3, 0), true},
		{pt(0, 0), pt(0, 9), pt(0, 5), pt(0, 6), true},
		{pt(-3, -3), pt(-1, -1), pt(1, 1), pt(3, 3), false},
		// Beside each other.
		{pt(0, 0), pt(3, 1), pt(1, 0), pt(4, 1), false},
		// One line would meet the other if it went on.
		{pt(0, 0), pt(1, 1), pt(3, 0), pt(0, 3), false},
		{pt(3, 0), pt(0, 3), pt(0, 0), pt(1, 1), false},
		// Lines of one point.
		{pt(1, 1), pt(1, 1), pt(1, 1), pt(1, 1), true},
		{pt(1, 1), pt(1, 1), pt(1, 2), pt(1, 2), false},
		{pt(100, 100), pt(100, 100), pt(-100, -100), pt(100, 100), true},
	} {
		if is, e := screen.Touch(c.a, c.b, c.c, c.d); is != c.want || e != api.OK {
			t.Errorf("%v: %t, %d", c, is, e)
		}
		if is, e := screen.Touch(c.d, c.c, c.b, c.a); is != c.want || e != api.OK {
			t.Errorf("%v from behind: %t, %d", c, is, e)
		}
	}
	for _, p := range notPoints {
		for i := range 4 {
			l := [4]api.Point{}
			l[i] = p
			if is, e := screen.Touch(l[0], l[1], l[2], l[3]); is || e != api.ErrArg {
				t.Errorf("Touch(%v): %t, %d", l, is, e)
			}
		}
	}
}

func TestSees(t *testing.T) {
	l := []api.Screen{sc(0, 0, 0, 5)}
	for _, c := range []struct {
		a, b api.Point
		want bool
	}{
		{pt(-1, 2), pt(1, 2), false},
		{pt(-1, 6), pt(1, 6), true},
		{pt(-1, 10), pt(1, 0), false},
		{pt(-1, 10), pt(1, 1), true},
		{pt(-1, 2), pt(-1, 2), true},
		{pt(-1, 2), pt(0, 2), false},
		{pt(-1, 2), pt(-100, 100), true},
		// On the screen: not even itself.
		{pt(0, 0), pt(0, 0), false},
		{pt(0, 3), pt(0, 3), false},
		{pt(0, 5), pt(0, 9), false},
		{pt(0, 3), pt(-4, 3), false},
		// Along the screen.
		{pt(0, 6), pt(0, 9), true},
		{pt(0, -1), pt(0, 6), false},
	} {
		if is, e := screen.Sees(l, c.a, c.b); is != c.want || e != api.OK {
			t.Errorf("Sees %v: %t, %d", c, is, e)
		}
		if is, e := screen.Sees(l, c.b, c.a); is != c.want || e != api.OK {
			t.Errorf("Sees back %v: %t, %d", c, is, e)
		}
		if is, e := screen.Sees(nil, c.a, c.b); !is || e != api.OK {
			t.Errorf("Sees without screens %v: %t, %d", c, is, e)
		}
	}
}

func TestSightsOfScenes(t *testing.T) {
	for _, s := range scenes(400) {
		for i, a := range s.points {
			for _, b := range s.points[i:] {
				want := wantCutters(s.l, a, b)
				if cutters, e := screen.Cutters(s.l, a, b); !slices.Equal(cutters, want) || e != api.OK {
					t.Fatalf("Cutters(%v, %v, %v): %v, %d, want %v", s.l, a, b, cutters, e, want)
				}
				is, e := screen.Sees(s.l, a, b)
				back, f := screen.Sees(s.l, b, a)
				if is != (len(want) == 0) || back != is || e != api.OK || f != api.OK {
					t.Fatalf("Sees(%v, %v, %v): %t, %t, %d, %d", s.l, a, b, is, back, e, f)
				}
			}
			want := wantSeers(s.l, s.eyes, a)
			if seers, e := screen.Seers(s.l, s.eyes, a); !slices.Equal(seers, want) || e != api.OK {
				t.Fatalf("Seers(%v, %v, %v): %v, %d, want %v", s.l, s.eyes, a, seers, e, want)
			}
			if is, e := screen.Hidden(s.l, s.eyes, a); is != (len(want) == 0) || e != api.OK {
				t.Fatalf("Hidden(%v, %v, %v): %t, %d", s.l, s.eyes, a, is, e)
			}
		}
		checkSights(t, s)
	}
}

func checkSights(t *testing.T, s scene) {
	t.Helper()
	sights, e := screen.Sights(s.l, s.points)
	if len(sights) != len(s.points) || e != api.OK {
		t.Fatalf("Sights(%v, %v): %v, %d", s.l, s.points, sights, e)
	}
	for i, a := range s.points {
		want := 0
		for k, b := range s.points {
			if wantSees(s.l, a, b) {
				want |= 1 << k
			}
		}
		if sights[i] != want {
			t.Fatalf("Sights(%v, %v): %b at %d, want %b", s.l, s.points, sights[i], i, want)
		}
	}
	want := wantGroups(s.l, s.points)
	if n, e := screen.Groups(s.l, s.points); n != want || e != api.OK {
		t.Fatalf("Groups(%v, %v): %d, %d, want %d", s.l, s.points, n, e, want)
	}
}

func TestCutters(t *testing.T) {
	l := []api.Screen{sc(2, -9, 2, 9), sc(0, 0, 0, 5), sc(1, 7, 1, 8), sc(2, 9, 2, -9)}
	for _, c := range []struct {
		a, b api.Point
		want []int
	}{
		{pt(-1, 2), pt(3, 2), []int{0, 1, 3}},
		{pt(3, 2), pt(-1, 2), []int{0, 1, 3}},
		{pt(-1, 7), pt(3, 7), []int{0, 2, 3}},
		{pt(-1, 7), pt(1, 7), []int{2}},
		{pt(1, 8), pt(1, 8), []int{2}},
		{pt(-1, 7), pt(-1, -7), nil},
	} {
		if got, e := screen.Cutters(l, c.a, c.b); !slices.Equal(got, c.want) || e != api.OK {
			t.Errorf("%v: %v, %d", c, got, e)
		}
	}
}

func TestSeersAndHidden(t *testing.T) {
	l := []api.Screen{sc(0, 0, 0, 5)}
	eyes := []api.Point{pt(-1, 2), pt(1, 2), pt(-1, 9), pt(0, 2), pt(-1, 2)}
	for _, c := range []struct {
		p    api.Point
		want []int
	}{
		{pt(-2, 3), []int{0, 2, 4}},
		{pt(2, 3), []int{1, 2}},
		{pt(-1, 2), []int{0, 2, 4}},
		{pt(0, 2), nil},
		{pt(0, 0), nil},
	} {
		if got, e := screen.Seers(l, eyes, c.p); !slices.Equal(got, c.want) || e != api.OK {
			t.Errorf("Seers %v: %v, %d", c, got, e)
		}
		if is, e := screen.Hidden(l, eyes, c.p); is != (c.want == nil) || e != api.OK {
			t.Errorf("Hidden %v: %t, %d", c, is, e)
		}
		if is, e := screen.Hidden(l, nil, c.p); !is || e != api.OK {
			t.Errorf("Hidden without watchers %v: %t, %d", c, is, e)
		}
	}
}

func TestSightsAndGroups(t *testing.T) {
	wall := []api.Screen{sc(0, -5, 0, 5)}
	row := make([]api.Point, api.MaxPoints)
	for i := range row {
		row[i] = pt(i, 0)
	}
	for _, c := range []struct {
		l      []api.Screen
		points []api.Point
		sights []int
		groups int
	}{
		{nil, nil, nil, 0},
		{wall, []api.Point{pt(3, 3)}, []int{1}, 1},
		{wall, []api.Point{pt(0, 3)}, []int{0}, 1},
		{wall, []api.Point{pt(-1, 0), pt(1, 0)}, []int{1, 2}, 2},
		// Both see the third one only.
		{wall, []api.Point{pt(-1, 0), pt(1, 0), pt(0, 6)}, []int{5, 6, 7}, 1},
		// The first and the last one are together through the two between them.
		{append(wall[:1:1], sc(-9, 7, 9, 7)), []api.Point{pt(-1, 0), pt(-9, 8), pt(11, 6), pt(0, 6), pt(1, 9), pt(12, 8)},
			[]int{1 | 8, 2 | 16 | 32, 4 | 8 | 32, 1 | 4 | 8, 2 | 16 | 32, 2 | 4 | 16 | 32}, 1},
		{wall, []api.Point{pt(2, 2), pt(2, 2), pt(0, 0), pt(0, 1)}, []int{3, 3, 0, 0}, 3},
		{nil, row, slices.Repeat([]int{1<<16 - 1}, 16), 1},
		{[]api.Screen{sc(-1, 0, 16, 0)}, row, make([]int, 16), 16},
	} {
		if got, e := screen.Sights(c.l, c.points); !slices.Equal(got, c.sights) || e != api.OK {
			t.Errorf("Sights of %v: %v, %d, want %v", c.points, got, e, c.sights)
		}
		if n, e := screen.Groups(c.l, c.points); n != c.groups || e != api.OK {
			t.Errorf("Groups of %v: %d, %d, want %d", c.points, n, e, c.groups)
		}
	}
}

// TestErrorsOfSights gives each function a wrong argument, or two of which the
// first error decides.
func TestErrorsOfSights(t *testing.T) {
	for name, c := range screenErrors() {
		for _, p := range []api.Point{pt(0, 0), pt(101, 0)} {
			wantSightError(t, name, c.l, nil, p, c.want)
			wantSightError(t, name, c.l, make([]api.Point, 17), p, c.want)
		}
	}
	for _, p := range notPoints {
		wantSightError(t, "no point", manyScreens(), nil, p, api.ErrArg)
		for _, points := range [][]api.Point{{p}, append(make([]api.Point, 7), p)} {
			wantListError(t, nil, points, api.ErrArg)
			wantEyeError(t, nil, points, pt(0, 0), api.ErrArg)
		}
		wantListError(t, nil, append(make([]api.Point, 15), p), api.ErrArg)
		wantListError(t, nil, append(make([]api.Point, 16), p), api.ErrLarge)
		wantEyeError(t, nil, append(make([]api.Point, 8), p), pt(0, 0), api.ErrLarge)
		wantEyeError(t, nil, make([]api.Point, 9), p, api.ErrLarge)
		wantEyeError(t, nil, make([]api.Point, 8), p, api.ErrArg)
	}
	wantListError(t, nil, make([]api.Point, 17), api.ErrLarge)
	wantEyeError(t, nil, make([]api.Point, 9), pt(0, 0), api.ErrLarge)
	if seers, e := screen.Seers(nil, make([]api.Point, 8), pt(1, 1)); len(seers) != 8 || e != api.OK {
		t.Errorf("Seers of 8 watchers: %v, %d", seers, e)
	}
}

func wantSightError(t *testing.T, name string, l []api.Screen, points []api.Point, p api.Point, want api.Errno) {
	t.Helper()
	for _, ends := range [][2]api.Point{{p, pt(1, 1)}, {pt(1, 1), p}} {
		if is, e := screen.Sees(l, ends[0], ends[1]); is || e != want {
			t.Errorf("%s: Sees: %t, %d, want %d", name, is, e, want)
		}
		if got, e := screen.Cutters(l, ends[0], ends[1]); len(got) != 0 || e != want {
			t.Errorf("%s: Cutters: %v, %d, want %d", name, got, e, want)
		}
	}
	wantEyeError(t, l, points, p, want)
	if want != api.ErrArg || p == pt(0, 0) {
		wantListError(t, l, points, want)
	}
}

func wantListError(t *testing.T, l []api.Screen, points []api.Point, want api.Errno) {
	t.Helper()
	if got, e := screen.Sights(l, points); len(got) != 0 || e != want {
		t.Errorf("Sights(%v, %v): %v, %d, want %d", l, points, got, e, want)
	}
	if n, e := screen.Groups(l, points); n != 0 || e != want {
		t.Errorf("Groups(%v, %v): %d, %d, want %d", l, points, n, e, want)
	}
}

func wantEyeError(t *testing.T, l []api.Screen, eyes []api.Point, p api.Point, want api.Errno) {
	t.Helper()
	if got, e := screen.Seers(l, eyes, p); len(got) != 0 || e != want {
		t.Errorf("Seers(%v, %v, %v): %v, %d, want %d", l, eyes, p, got, e, want)
	}
	if is, e := screen.Hidden(l, eyes, p); is || e != want {
		t.Errorf("Hidden(%v, %v, %v): %t, %d, want %d", l, eyes, p, is, e, want)
	}
}
