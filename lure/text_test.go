package lure_test

import (
	"strings"
	"testing"

	"wigeon/api"
	"wigeon/lure"
)

func TestFormat(t *testing.T) {
	full := api.Game{}
	for p := range 16 {
		full.Owner = append(full.Owner, p%2)
		full.Moves = append(full.Moves, count(16))
	}
	places := " 0 1 2 3 4 5 6 7 8 9 10 11 12 13 14 15\n"
	for _, c := range []struct {
		g    api.Game
		want string
	}{
		{first(), "0 1 2\n1 0 3\n1 3\n0 3\n"},
		{line(1, 1), "1 0\n"},
		{line(2, 0), "0 0\n0 0\n"},
		{full, strings.Repeat("0"+places+"1"+places, 8)},
	} {
		if s, e := lure.Format(c.g); s != c.want || e != api.OK {
			t.Errorf("Format(%v): %q, %d, want %q", c.g, s, e, c.want)
		}
		if g, e := lure.Parse(c.want); !sameGame(g, c.g) || e != api.OK {
			t.Errorf("Parse(%q): %v, %d, want %v", c.want, g, e, c.g)
		}
	}
}

// TestTextsOfGames tests that the text of each game is read as that game, and
// that all other texts near to it are the texts of the games that are read, or
// refused.
func TestTextsOfGames(t *testing.T) {
	tried := 0
	look := func(g api.Game, _ []int) {
		given := cloneGame(g)
		text, e := lure.Format(g)
		if e != api.OK || !sameGame(g, given) {
			t.Fatalf("Format(%v): %q, %d", given, text, e)
		}
		read, e := lure.Parse(text)
		if !sameGame(read, g) || e != api.OK {
			t.Fatalf("Parse(%q): %v, %d, want %v", text, read, e, g)
		}
		checkOwnMemory(t, read)
		if tried++; tried%100 != 0 {
			return
		}
		for _, slip := range slips(text) {
			read, e := lure.Parse(slip)
			if e == api.OK {
				if again, f := lure.Format(read); again != slip || f != api.OK {
					t.Fatalf("Parse(%q): %v, %q, %d", slip, read, again, f)
				}
			} else if e != api.ErrSyntax || !isNoGame(read) {
				t.Fatalf("Parse(%q): %v, %d", slip, read, e)
			}
		}
	}
	smallGames(look)
	someGames(2000, 16, look)
}

// slips returns the texts that come from a text by leaving out a byte, by
// putting one in or by changing one.
func slips(text string) []string {
	var l []string
	for i := range len(text) + 1 {
		for _, b := range []string{"", "0", "1", "2", "9", " ", "\n", "-", "+", "\r", "\t", "_", "\x00", "x", "\xff"} {
			l = append(l, text[:i]+b+text[i:])
			if i < len(text) {
				l = append(l, text[:i]+b+text[i+1:])
			}
		}
	}
	return l
}

func TestParseRefuses(t *testing.T) {
	for _, s := range []string{
		"", "\n", " ", " \n", "0", "0\n", "0 0", "1 0", "0 0\n\n", "\n0 0\n", "0 0\n0", "0 0\n0 0", "0 0\n\n0 0\n",
		"2 0\n", "-1 0\n", "0 1\n", "0 -1\n", "0 0 0\n", "0 0\n0 1 0\n", "0 0\n0 1 1\n", "0 16\n",
		"0 00\n", "00 0\n", "0 -0\n", "-0 0\n", "0 +0\n", "+0 0\n", "0  0\n", " 0 0\n", "0 0 \n", "0\t0\n", "0 0\r\n", "0 0\x00\n",
		"0 a\n", "a 0\n", "0 0x0\n", "0 0_0\n", "0 0.\n", "0 ٠\n", "0,0\n", "0 \xff\n",
		"0 18446744073709551616\n", "0 9223372036854775808\n", "18446744073709551616 0\n",
		strings.Repeat("0 0\n", 17), strings.Repeat("0 0\n", 1000), strings.Repeat("0", 4000), strings.Repeat("\n", 4000), strings.Repeat(" ", 4000),
	} {
		if g, e := lure.Parse(s); !isNoGame(g) || e != api.ErrSyntax {
			t.Errorf("Parse(%q): %v, %d", s, g, e)
		}
	}
	for _, s := range []string{
		strings.Repeat("0", 4001), strings.Repeat("0 0\n", 1001), "0 0\n" + strings.Repeat("\n", 3997), strings.Repeat("\xff", 5000),
	} {
		if g, e := lure.Parse(s); !isNoGame(g) || e != api.ErrLarge {
			t.Errorf("Parse of %d bytes: %v, %d", len(s), g, e)
		}
	}
	if g, e := lure.Parse(strings.Repeat("0 0\n", 16)); len(g.Owner) != 16 || len(g.Moves) != 16 || e != api.OK {
		t.Errorf("Parse of 16 places: %v, %d", g, e)
	}
}
