package whistle_test

import (
	"math"
	"math/big"
	"math/rand/v2"
	"slices"
	"strings"
	"testing"

	"wigeon/api"
	"wigeon/whistle"
)

// The functions of this file find what the chapter's words ask for in the
// plainest way, to compare the package with it.

// notNumbers are numbers of no signal of any code.
var notNumbers = []int{-1, -2, 12, 13, 64, 1 << 32, math.MaxInt, math.MinInt, math.MinInt + 1}

// notNotes are texts with a byte that is not a note.
var notNotes = []string{"a", " ", "\n", "\x00", ".\x00", ".a", "a.", "-_", "–", "·", "\xff", ".\xff.", "\xc2", "..,", "+", "/", "0", "1"}

// first is the code of the chapter's first example.
func first() []string {
	return []string{".", ".-", "-."}
}

// dots returns a signal of short notes.
func dots(n int) string {
	return strings.Repeat(".", n)
}

// allDots returns the code of the signals of short notes of each length.
func allDots() []string {
	var code []string
	for n := range 12 {
		code = append(code, dots(n+1))
	}
	return code
}

type wrongCode struct {
	code []string
	e    api.Errno
}

// wrongCodes returns lists that are no codes, and their errors.
func wrongCodes() []wrongCode {
	l := []wrongCode{
		{nil, api.ErrLarge},
		{[]string{}, api.ErrLarge},
		{make([]string, 13), api.ErrLarge},
		{slices.Repeat([]string{"."}, 13), api.ErrLarge},
		{append(allDots(), "-"), api.ErrLarge},
		{append(allDots(), "."), api.ErrLarge},
		{[]string{""}, api.ErrArg},
		{[]string{".", ""}, api.ErrArg},
		{[]string{"", ""}, api.ErrArg},
		{[]string{dots(13)}, api.ErrArg},
		{[]string{dots(12), dots(13)}, api.ErrArg},
		{[]string{strings.Repeat("-", 100000)}, api.ErrArg},
		{[]string{".", "."}, api.ErrTwice},
		{[]string{"-.", ".", "-", "-."}, api.ErrTwice},
		{append(allDots()[:11], dots(5)), api.ErrTwice},
		// One by one: the first signal with an error decides.
		{[]string{".", ".", ""}, api.ErrTwice},
		{[]string{".", "", "."}, api.ErrArg},
		{[]string{".", dots(13), ".", "."}, api.ErrArg},
		{[]string{"-", "-", "a"}, api.ErrTwice},
		{[]string{"a", "a"}, api.ErrArg},
	}
	for _, text := range notNotes {
		l = append(l, wrongCode{[]string{text}, api.ErrArg}, wrongCode{[]string{"--", text}, api.ErrArg})
	}
	return l
}

// textsUpTo returns all texts of at most so many notes, the empty one first.
func textsUpTo(notes int) []string {
	l := []string{""}
	for i := 0; len(l[i]) < notes; i++ {
		l = append(l, l[i]+"-", l[i]+".")
	}
	return l
}

// smallCodes calls a function with all codes of at most three signals of at
// most three notes, in each order.
func smallCodes(each func(code []string)) {
	texts := textsUpTo(3)[1:]
	for i, a := range texts {
		each([]string{a})
		for j, b := range texts {
			if i == j {
				continue
			}
			each([]string{a, b})
			for k, c := range texts {
				if k != i && k != j {
					each([]string{a, b, c})
				}
			}
		}
	}
}

// someCodes calls a function with so many codes that are drawn.
func someCodes(count, maxSignals, maxNotes int, each func(code []string, r *rand.Rand)) {
	r := rand.New(rand.NewPCG(5, uint64(count*maxSignals+maxNotes)))
	for range count {
		signals := min(r.IntN(maxSignals)+1, 1<<maxNotes)
		var code []string
		for len(code) < signals {
			s := someText(r, r.IntN(maxNotes)+1)
			if !slices.Contains(code, s) {
				code = append(code, s)
			}
		}
		each(code, r)
	}
}

func someText(r *rand.Rand, notes int) string {
	b := make([]byte, notes)
	for i := range b {
		b[i] = ".-"[r.IntN(2)]
	}
	return string(b)
}

// wantSound returns how a message sounds.
func wantSound(code []string, message []int) string {
	s := ""
	for _, n := range message {
		s += code[n]
	}
	return s
}

// wantMessages returns all messages of at most so many notes, by their sound,
// those of one sound in ascending order.
func wantMessages(code []string, notes int) map[string][][]int {
	found := map[string][][]int{}
	now := [][]int{nil}
	for len(now) > 0 {
		var longer [][]int
		for _, m := range now {
			found[wantSound(code, m)] = append(found[wantSound(code, m)], m)
			for i := range code {
				if next := append(slices.Clone(m), i); len(wantSound(code, next)) <= notes {
					longer = append(longer, next)
				}
			}
		}
		now = longer
	}
	for _, l := range found {
		slices.SortFunc(l, slices.Compare)
	}
	return found
}

// wantCommands returns what the dog obeys, and the rest.
func wantCommands(code []string, text string) ([]string, string) {
	for _, s := range code {
		if len(s) <= len(text) && text[:len(s)] == s {
			l, rest := wantCommands(code, text[len(s):])
			return append([]string{s}, l...), rest
		}
	}
	return nil, text
}

// wantEnds returns all ends, the empty one too, by the chapter's rule: each part
// at the end of a signal is looked at again and again until no more are found.
func wantEnds(code []string) []string {
	texts := []string{}
	for _, s := range code {
		for i := range len(s) + 1 {
			texts = append(texts, s[i:])
		}
	}
	slices.Sort(texts)
	texts = slices.Compact(texts)
	var ends []string
	for {
		before := len(ends)
		for _, t := range texts {
			if !slices.Contains(ends, t) && wantIsEnd(code, ends, t) {
				ends = append(ends, t)
			}
		}
		if len(ends) == before {
			slices.Sort(ends)
			return ends
		}
	}
}

// wantIsEnd reports whether a text is an end if some others are.
func wantIsEnd(code, ends []string, t string) bool {
	for _, x := range code {
		for _, y := range code {
			if x != y && y == x+t {
				return true
			}
		}
		for _, u := range ends {
			if u != "" && (u == x+t || x == u+t) {
				return true
			}
		}
	}
	return false
}

// readers are two that read the same notes: what each still expects of its
// signal, and whether they have read different messages.
type readers struct {
	a, b  string
	apart bool
}

// wantSafe reports whether no two readers who differ can be through with the
// same text at the same time.
func wantSafe(code []string) bool {
	seen := map[readers]bool{}
	open := []readers{{}}
	for len(open) > 0 {
		r := open[0]
		open = open[1:]
		if r == (readers{apart: true}) {
			return false
		}
		for _, next := range nextReaders(code, r) {
			if !seen[next] {
				seen[next] = true
				open = append(open, next)
			}
		}
	}
	return true
}

// nextReaders returns the readers after one more note; who is through with a
// signal chooses the next one.
func nextReaders(code []string, r readers) []readers {
	as, bs := []string{r.a}, []string{r.b}
	if r.a == "" {
		as = code
	}
	if r.b == "" {
		bs = code
	}
	var l []readers
	for _, a := range as {
		for _, b := range bs {
			if a[0] == b[0] {
				together := r.a == "" && r.b == "" && a == b || r.a != "" && r.b != ""
				l = append(l, readers{a[1:], b[1:], r.apart || !together})
			}
		}
	}
	return l
}

// wantFill returns the sum of 1 / 2^length.
func wantFill(lengths []int) api.Rat {
	sum := new(big.Rat)
	for _, n := range lengths {
		sum.Add(sum, big.NewRat(1, 1<<n))
	}
	return api.Rat{Num: int(sum.Num().Int64()), Den: int(sum.Denom().Int64())}
}

func lengthsOf(code []string) []int {
	var l []int
	for _, s := range code {
		l = append(l, len(s))
	}
	return l
}

func wantCost(weights []int, code []string) int {
	sum := 0
	for i, w := range weights {
		sum += w * len(code[i])
	}
	return sum
}

// isSafe returns what IsSafe returns, which must be OK.
func isSafe(t *testing.T, code []string) bool {
	t.Helper()
	safe, e := whistle.IsSafe(code)
	if e != api.OK {
		t.Fatalf("IsSafe(%q): %d", code, e)
	}
	return safe
}

// isPrefix returns what IsPrefix returns, which must be OK.
func isPrefix(t *testing.T, code []string) bool {
	t.Helper()
	is, e := whistle.IsPrefix(code)
	if e != api.OK {
		t.Fatalf("IsPrefix(%q): %d", code, e)
	}
	return is
}
