package screen_test

import (
	"math"
	"regexp"
	"slices"
	"strconv"
	"strings"
	"testing"

	"wigeon/api"
	"wigeon/screen"
)

func TestMove(t *testing.T) {
	l := []api.Screen{sc(0, 0, 0, 5), sc(-3, 7, 2, -1)}
	for _, c := range []struct {
		l    []api.Screen
		by   api.Point
		want []api.Screen
	}{
		{l, pt(0, 0), l},
		{l, pt(3, -1), []api.Screen{sc(3, -1, 3, 4), sc(0, 6, 5, -2)}},
		{l, pt(-97, 93), []api.Screen{sc(-97, 93, -97, 98), sc(-100, 100, -95, 92)}},
		{nil, pt(200, -200), nil},
		{nil, pt(-200, 200), nil},
		{[]api.Screen{sc(-100, -100, -100, -99)}, pt(200, 199), []api.Screen{sc(100, 99, 100, 100)}},
		{[]api.Screen{sc(100, 100, 99, 100)}, pt(-199, -200), []api.Screen{sc(-99, -100, -100, -100)}},
	} {
		if got, e := screen.Move(c.l, c.by); !slices.Equal(got, c.want) || e != api.OK {
			t.Errorf("Move(%v, %v): %v, %d, want %v", c.l, c.by, got, e, c.want)
		}
	}
	for _, c := range []struct {
		l  []api.Screen
		by api.Point
	}{
		{l, pt(101, 0)}, {l, pt(-98, 0)}, {l, pt(99, 0)}, {l, pt(0, 94)}, {l, pt(0, -100)},
		{nil, pt(201, 0)}, {nil, pt(-201, 0)}, {nil, pt(0, 201)}, {nil, pt(0, -201)},
		{nil, pt(math.MaxInt, 0)}, {nil, pt(0, math.MinInt)},
		{[]api.Screen{sc(100, 0, 100, 1)}, pt(math.MaxInt, 0)},
	} {
		if got, e := screen.Move(c.l, c.by); len(got) != 0 || e != api.ErrArg {
			t.Errorf("Move(%v, %v): %v, %d", c.l, c.by, got, e)
		}
	}
}

func TestTurn(t *testing.T) {
	for _, c := range []struct{ l, want []api.Screen }{
		{nil, nil},
		{[]api.Screen{sc(0, 0, 0, 5)}, []api.Screen{sc(0, 0, -5, 0)}},
		{[]api.Screen{sc(1, 2, -3, 4), sc(-100, 100, 100, -99)}, []api.Screen{sc(-2, 1, -4, -3), sc(-100, -100, 99, 100)}},
	} {
		if got, e := screen.Turn(c.l); !slices.Equal(got, c.want) || e != api.OK {
			t.Errorf("Turn(%v): %v, %d, want %v", c.l, got, e, c.want)
		}
	}
}

func TestErrorsOfChanges(t *testing.T) {
	for name, c := range screenErrors() {
		for _, by := range []api.Point{pt(0, 0), pt(201, 0)} {
			if got, e := screen.Move(c.l, by); len(got) != 0 || e != c.want {
				t.Errorf("%s: Move: %v, %d, want %d", name, got, e, c.want)
			}
		}
		if got, e := screen.Turn(c.l); len(got) != 0 || e != c.want {
			t.Errorf("%s: Turn: %v, %d, want %d", name, got, e, c.want)
		}
		if s, e := screen.Format(c.l); s != "" || e != c.want {
			t.Errorf("%s: Format: %q, %d, want %d", name, s, e, c.want)
		}
	}
}

// TestChangesShowTheSame holds moved and turned screens against moved and
// turned points.
func TestChangesShowTheSame(t *testing.T) {
	for _, s := range scenes(100) {
		by := pt(len(s.l)*7-40, 60-len(s.points)*5)
		moved, e := screen.Move(s.l, by)
		turned, f := screen.Turn(s.l)
		if e != api.OK || f != api.OK {
			t.Fatal(s.l, e, f)
		}
		var movedTo, turnedTo []api.Point
		for _, p := range s.points {
			movedTo = append(movedTo, pt(p.X+by.X, p.Y+by.Y))
			turnedTo = append(turnedTo, pt(-p.Y, p.X))
		}
		want, _ := screen.Sights(s.l, s.points)
		if got, e := screen.Sights(moved, movedTo); !slices.Equal(got, want) || e != api.OK {
			t.Errorf("moved by %v: %v, %d, want %v", by, got, e, want)
		}
		if got, e := screen.Sights(turned, turnedTo); !slices.Equal(got, want) || e != api.OK {
			t.Errorf("turned: %v, %d, want %v", got, e, want)
		}
	}
}

// TestNothingIsShared writes into results and looks whether arguments changed.
func TestNothingIsShared(t *testing.T) {
	l := manyScreens()
	eyes := []api.Point{pt(5, 0)}
	for range 2 {
		moved, _ := screen.Move(l, pt(0, 0))
		turned, _ := screen.Turn(l)
		for _, got := range [][]api.Screen{moved, turned} {
			for i := range got {
				got[i] = api.Screen{}
			}
		}
		way, _, _ := screen.Way(l, eyes, api.Box{Hi: pt(0, 0)}, pt(0, 0), pt(0, 0))
		for i := range way {
			way[i] = pt(9, 9)
		}
		if !slices.Equal(l, manyScreens()) || eyes[0] != pt(5, 0) {
			t.Errorf("an argument was changed: %v, %v", l, eyes)
		}
	}
}

func TestFormatAndParse(t *testing.T) {
	for _, c := range []struct {
		l    []api.Screen
		want string
	}{
		{nil, ""},
		{[]api.Screen{sc(0, 0, 0, 5)}, "0 0 0 5\n"},
		{[]api.Screen{sc(-100, 100, -9, 10), sc(3, 4, 1, 2), sc(3, 4, 1, 2)}, "-100 100 -9 10\n3 4 1 2\n3 4 1 2\n"},
	} {
		if s, e := screen.Format(c.l); s != c.want || e != api.OK {
			t.Errorf("Format(%v): %q, %d", c.l, s, e)
		}
		if l, e := screen.Parse(c.want); !slices.Equal(l, c.l) || e != api.OK {
			t.Errorf("Parse(%q): %v, %d", c.want, l, e)
		}
	}
	for _, s := range scenes(50) {
		text, e := screen.Format(s.l)
		if l, f := screen.Parse(text); !slices.Equal(l, s.l) || e != api.OK || f != api.OK {
			t.Errorf("%q: %v, %d, %d, want %v", text, l, e, f, s.l)
		}
	}
}

func TestParseErrors(t *testing.T) {
	full, _ := screen.Format(manyScreens())
	for _, text := range []string{
		"0 0 0 5", "0 0 0\n", "0 0 0 5 6\n", "0 0 0 5\n\n", "\n", "\n0 0 0 5\n", "0 0 0 5\n0", " ", "\x00",
		"0 0 0 0\n", "7 -7 7 -7\n", "00 0 0 5\n", "0 0 0 05\n", "+1 0 0 5\n", "-0 0 0 5\n", "0 0 0 -\n", "0 0 0 1_0\n",
		"0  0 0 5\n", " 0 0 0 5\n", "0 0 0 5 \n", "0 0 0 5\r\n", "0\t0 0 5\n", "0 0 0 \n", "0 0 0 x\n", "0x1 0 0 5\n", "0 0 0 5.0\n",
		"0 0 0 101\n", "0 0 -101 0\n", "0 0 0 99999999999999999999\n", "0 0 0 18446744073709551621\n", "0 0 0 ٥\n",
		full + "0 0 0 5\n", full[:len(full)-1], strings.Repeat("0 0 0 5\n", 1000),
	} {
		if l, e := screen.Parse(text); len(l) != 0 || e != api.ErrSyntax {
			t.Errorf("Parse(%q): %v, %d", text, l, e)
		}
	}
	if l, e := screen.Parse(full); !slices.Equal(l, manyScreens()) || e != api.OK {
		t.Errorf("Parse(%q): %v, %d", full, l, e)
	}
}

// wantParse reads a text by a pattern of the numbers and lines of rule R9.
func wantParse(text string) ([]api.Screen, bool) {
	const number = `(?:0|-?[1-9][0-9]{0,2})`
	line := number + " " + number + " " + number + " " + number + "\n"
	if !regexp.MustCompile(`\A(?:` + line + `)*\z`).MatchString(text) {
		return nil, false
	}
	var n []int
	for _, word := range strings.Fields(text) {
		i, _ := strconv.Atoi(word)
		n = append(n, i)
	}
	var l []api.Screen
	for ; len(n) > 0; n = n[4:] {
		l = append(l, sc(n[0], n[1], n[2], n[3]))
	}
	return l, screen.Validate(l) == api.OK
}

// TestParseOfNearTexts changes a text by one byte in all places.
func TestParseOfNearTexts(t *testing.T) {
	const text = "0 -1 10 100\n-9 0 -9 1\n"
	for at := range len(text) + 1 {
		for _, put := range []string{"", " ", "\n", "-", "+", "0", "1", "9", "_", "\x00", "\xff", "\t"} {
			for cut := 0; cut < 2 && at+cut <= len(text); cut++ {
				near := text[:at] + put + text[at+cut:]
				want, ok := wantParse(near)
				l, e := screen.Parse(near)
				if ok && (!slices.Equal(l, want) || e != api.OK) || !ok && (len(l) != 0 || e != api.ErrSyntax) {
					t.Errorf("Parse(%q): %v, %d, want %v, %t", near, l, e, want, ok)
				}
			}
		}
	}
}
