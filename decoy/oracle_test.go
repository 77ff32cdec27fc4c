package decoy_test

import (
	"math/rand/v2"
	"regexp"
	"slices"
	"strconv"
	"strings"
	"testing"

	"wigeon/api"
	"wigeon/book"
	"wigeon/count"
	"wigeon/decoy"
	"wigeon/ring"
	"wigeon/wind"
)

// entry is an order that was accepted: its words, the day of it, and the ring of
// the bird that was meant.
type entry struct {
	page, kind, word string
	day              int
	ring             string
}

// history is a plain second way to run a decoy: it keeps nothing but the orders
// that were accepted, and goes through all of them for each question.
type history struct {
	pipes   []api.Arc
	blocks  []api.Block
	entries []entry
}

// orderForm is the form of all orders, but for their length.
var orderForm = regexp.MustCompile(`^(?:(day|shot)|(work) (0|[1-9][0-9]?)|(wind|ring|again|worn|dead) ([!-~]+))$`)

func (h *history) day() int {
	return h.howMany(func(x entry) bool { return x.kind == "day" })
}

func (h *history) howMany(is func(x entry) bool) int {
	n := 0
	for _, x := range h.entries {
		if is(x) {
			n++
		}
	}
	return n
}

func (h *history) wind() (int, bool) {
	for _, x := range h.entries {
		if x.kind == "wind" && x.day == h.day() {
			p, _ := wind.Point(x.word)
			return p, true
		}
	}
	return 0, false
}

func (h *history) worked() []int {
	var l []int
	for _, x := range h.entries {
		if x.kind == "work" && x.day == h.day() {
			n, _ := strconv.Atoi(x.word)
			l = append(l, n)
		}
	}
	slices.Sort(l)
	return l
}

func (h *history) bird(text string) (decoy.Bird, bool) {
	b := decoy.Bird{Ring: text}
	for _, x := range h.entries {
		if x.ring != text {
			continue
		}
		if x.kind == "dead" {
			b.Dead = true
		} else {
			b.Days = append(b.Days, x.day)
		}
	}
	return b, len(b.Days) > 0
}

func (h *history) birds() []decoy.Bird {
	var l []decoy.Bird
	for _, x := range h.entries {
		if x.kind == "ring" {
			b, _ := h.bird(x.ring)
			l = append(l, b)
		}
	}
	return l
}

func (h *history) pages() []string {
	var l []string
	for _, x := range h.entries {
		l = append(l, x.page)
	}
	return l
}

// block returns the number of the block that has a ring, and -1 if none has it.
func (h *history) block(text string) int {
	series, digits := text[:len(text)-6], text[len(text)-6:len(text)-1]
	number, _ := strconv.Atoi(digits)
	return slices.IndexFunc(h.blocks, func(b api.Block) bool {
		return b.Series == series && b.From <= number && number <= b.To
	})
}

func (h *history) left(block int) int {
	b := h.blocks[block]
	return b.To + 1 - b.From - h.howMany(func(x entry) bool { return x.kind == "ring" && h.block(x.ring) == block })
}

func (h *history) catch(day int) api.Catch {
	old := map[string]bool{}
	var c api.Catch
	for _, x := range h.entries {
		switch {
		case x.kind == "ring" && x.day < day:
			old[x.ring] = true
			c.Marked++
		case x.kind != "dead" && x.ring != "" && x.day == day:
			c.Caught++
			if old[x.ring] {
				c.Again++
			}
		}
	}
	return c
}

// canWork reports whether a pipe can be worked at the wind of the day.
func (h *history) canWork(pipe int) bool {
	p, _ := h.wind()
	for i := range h.pipes[pipe].Width {
		if (h.pipes[pipe].From+i)%32 == p {
			return true
		}
	}
	return false
}

// workError returns the error of the order to work a pipe.
func (h *history) workError(word string) api.Errno {
	pipe, _ := strconv.Atoi(word)
	if pipe >= len(h.pipes) {
		return api.ErrNone
	}
	if _, known := h.wind(); !known {
		return api.ErrState
	}
	shots := h.howMany(func(x entry) bool { return x.kind == "shot" && h.day()-7 <= x.day && x.day <= h.day() })
	if !h.canWork(pipe) || shots > 0 {
		return api.ErrRule
	}
	if slices.Contains(h.worked(), pipe) {
		return api.ErrTwice
	}
	return api.OK
}

// ringError returns the error of the order to ring a bird.
func (h *history) ringError(text string) api.Errno {
	if e := ring.Valid(text); e != api.OK {
		return e
	}
	if h.block(text) < 0 {
		return api.ErrNone
	}
	if _, used := h.bird(text); used {
		return api.ErrTwice
	}
	if len(h.worked()) == 0 {
		return api.ErrState
	}
	return api.OK
}

// againError returns the error of the order to catch a bird again.
func (h *history) againError(text string) api.Errno {
	if e := ring.Valid(text); e != api.OK {
		return e
	}
	b, used := h.bird(text)
	if !used {
		return api.ErrNone
	}
	if len(h.worked()) == 0 || b.Dead {
		return api.ErrState
	}
	if b.Days[len(b.Days)-1] == h.day() {
		return api.ErrTwice
	}
	return api.OK
}

// wornError returns the ring that a worn one means, and the error of its order.
func (h *history) wornError(worn string) (string, api.Errno) {
	if !ring.IsWorn(worn) {
		return "", api.ErrSyntax
	}
	form := regexp.MustCompile("^" + strings.ReplaceAll(worn, "?", ".") + "$")
	var fit []string
	for _, b := range h.birds() {
		if !b.Dead && form.MatchString(b.Ring) {
			fit = append(fit, b.Ring)
		}
	}
	if len(fit) == 0 {
		return "", api.ErrNone
	}
	if len(fit) > 1 {
		return "", api.ErrMany
	}
	return fit[0], h.againError(fit[0])
}

// deadError returns the error of the order that a bird is dead.
func (h *history) deadError(text string) api.Errno {
	if e := ring.Valid(text); e != api.OK {
		return e
	}
	b, used := h.bird(text)
	if !used {
		return api.ErrNone
	}
	if b.Dead {
		return api.ErrState
	}
	return api.OK
}

// do executes an order.
func (h *history) do(text string) api.Errno {
	form := orderForm.FindStringSubmatch(text)
	if form == nil || len(text) > 60 {
		return api.ErrSyntax
	}
	if len(h.entries) == 64 {
		return api.ErrLarge
	}
	x := entry{page: text, kind: form[1] + form[2] + form[4], word: form[3] + form[5], day: h.day()}
	e := api.OK
	switch x.kind {
	case "wind":
		_, known := h.wind()
		_, e = wind.Point(x.word)
		if e == api.OK && known {
			e = api.ErrState
		}
	case "work":
		e = h.workError(x.word)
	case "ring":
		x.ring, e = x.word, h.ringError(x.word)
	case "again":
		x.ring, e = x.word, h.againError(x.word)
	case "worn":
		x.ring, e = h.wornError(x.word)
	case "dead":
		x.ring, e = x.word, h.deadError(x.word)
	}
	if e == api.OK {
		h.entries = append(h.entries, x)
	}
	return e
}

func sameBird(a, b decoy.Bird) bool {
	return a.Ring == b.Ring && slices.Equal(a.Days, b.Days) && a.Dead == b.Dead
}

// check tests all that a decoy tells against a history.
func check(t *testing.T, d *decoy.Decoy, h *history) {
	t.Helper()
	pages := h.pages()
	fail := func(what string, got, want any) {
		t.Helper()
		t.Fatalf("%s after %q: %v, want %v", what, pages, got, want)
	}
	if d.Day() != h.day() {
		fail("Day", d.Day(), h.day())
	}
	if p, known := d.Wind(); true {
		if q, k := h.wind(); p != q || known != k {
			fail("Wind", p, q)
		}
	}
	if !slices.Equal(d.Worked(), h.worked()) {
		fail("Worked", d.Worked(), h.worked())
	}
	birds := h.birds()
	if !slices.EqualFunc(d.Birds(), birds, sameBird) {
		fail("Birds", d.Birds(), birds)
	}
	for _, want := range birds {
		if b, e := d.Bird(want.Ring); !sameBird(b, want) || e != api.OK {
			fail("Bird", b, want)
		}
	}
	for block := range h.blocks {
		if n, e := d.Left(block); n != h.left(block) || e != api.OK {
			fail("Left", n, h.left(block))
		}
	}
	for day := range h.day() + 1 {
		want := h.catch(day)
		if c, e := d.Catch(day); c != want || e != api.OK {
			fail("Catch", c, want)
		}
		guess, f := count.Chapman(want.Marked, want.Caught, want.Again)
		if g, e := d.Guess(day); g != guess || e != f {
			fail("Guess", g, guess)
		}
	}
	checkPages(t, d, pages)
}

// checkPages tests the pages of a decoy and what follows from them.
func checkPages(t *testing.T, d *decoy.Decoy, pages []string) {
	t.Helper()
	if !slices.Equal(d.Pages(), pages) {
		t.Fatalf("Pages: %q, want %q", d.Pages(), pages)
	}
	root, _ := book.Root(pages)
	if d.Root() != root {
		t.Fatalf("Root after %q: %d, want %d", pages, d.Root(), root)
	}
	for i := range pages {
		want, _ := book.Proof(pages, i)
		if proof, e := d.Prove(i); !slices.Equal(proof, want) || e != api.OK {
			t.Fatalf("Prove(%d) after %q: %d, %d, want %d", i, pages, proof, e, want)
		}
	}
	if !d.Audit() {
		t.Fatalf("Audit after %q", pages)
	}
}

// worlds are pipes and blocks of decoys.
var worlds = []struct {
	pipes  []api.Arc
	blocks []api.Block
}{
	{[]api.Arc{{From: 0, Width: 32}}, []api.Block{{Series: "A", From: 0, To: 3}, {Series: "BA", From: 7, To: 7}}},
	{[]api.Arc{{From: 28, Width: 8}, {From: 0, Width: 20}, {From: 3, Width: 1}}, []api.Block{{Series: "A", From: 2, To: 4}, {Series: "A", From: 0, To: 1}}},
	{nil, []api.Block{{Series: "A", From: 0, To: 99999}}},
	{[]api.Arc{{From: 31, Width: 31}, {From: 8, Width: 17}}, nil},
	{slices.Repeat([]api.Arc{{From: 16, Width: 32}}, 10), []api.Block{{Series: "AB", From: 1, To: 5}, {Series: "BA", From: 0, To: 2}, {Series: "B", From: 0, To: 1}}},
}

// anyRing returns a text that is a ring of some block, as a rule.
func anyRing(r *rand.Rand, blocks []api.Block) string {
	text, _ := ring.Make([]string{"A", "B", "AB", "BA"}[r.IntN(4)], r.IntN(8))
	if len(blocks) > 0 && r.IntN(8) > 0 {
		b := blocks[r.IntN(len(blocks))]
		text, _ = ring.Make(b.Series, b.From+r.IntN(min(5, b.To-b.From+1)))
	}
	if r.IntN(20) == 0 {
		return text[:r.IntN(len(text))]
	}
	if r.IntN(20) == 0 {
		return text[:len(text)-1] + strconv.Itoa(r.IntN(10))
	}
	return text
}

// anyOrder returns a text that is an order, as a rule.
func anyOrder(r *rand.Rand, blocks []api.Block) string {
	text := anyRing(r, blocks)
	switch r.IntN(30) {
	case 0, 1, 2:
		return "day"
	case 3, 4, 5, 6, 7:
		name, _ := wind.Name(r.IntN(32))
		return "wind " + name
	case 8, 9, 10, 11, 12, 13:
		return "work " + strconv.Itoa(r.IntN(4))
	case 14, 15, 16, 17, 18:
		return "ring " + text
	case 19, 20, 21:
		return "again " + text
	case 22, 23, 24, 25:
		worn := []byte(text)
		for i := range worn {
			if r.IntN(3) > 0 {
				worn[i] = '?'
			}
		}
		return "worn " + string(worn)
	case 26, 27:
		return "dead " + text
	case 28:
		if r.IntN(8) == 0 {
			return "shot"
		}
	}
	odd := []string{"", "day ", "wind", "wind X", "work 100", "work 10", "work 01", "ring  A", "night", "worn ?", "dead A\n", "work -1"}
	return odd[r.IntN(len(odd))]
}

// TestSeasons tests many orders, one after another, against a history.
func TestSeasons(t *testing.T) {
	r := rand.New(rand.NewPCG(10, 1))
	seen := map[string]int{}
	for n := range 250 {
		world := worlds[n%len(worlds)]
		d, e := decoy.New(world.pipes, world.blocks)
		if e != api.OK {
			t.Fatalf("New: %d", e)
		}
		h := &history{pipes: world.pipes, blocks: world.blocks}
		for step := range 350 {
			order := anyOrder(r, world.blocks)
			want := h.do(order)
			if e := d.Do(order); e != want {
				t.Fatalf("%q after %q: %d, want %d", order, h.pages(), e, want)
			}
			first, _, _ := strings.Cut(order, " ")
			seen[first+" "+strconv.Itoa(int(want))]++
			if want == api.OK || step%8 == 0 {
				check(t, d, h)
			}
		}
	}
	for first, codes := range map[string][]api.Errno{
		"day":   {api.OK, api.ErrSyntax, api.ErrLarge},
		"wind":  {api.OK, api.ErrSyntax, api.ErrLarge, api.ErrState},
		"work":  {api.OK, api.ErrSyntax, api.ErrLarge, api.ErrNone, api.ErrState, api.ErrRule, api.ErrTwice},
		"shot":  {api.OK, api.ErrLarge},
		"ring":  {api.OK, api.ErrSyntax, api.ErrLarge, api.ErrCheck, api.ErrNone, api.ErrTwice, api.ErrState},
		"again": {api.OK, api.ErrSyntax, api.ErrLarge, api.ErrCheck, api.ErrNone, api.ErrState, api.ErrTwice},
		"worn":  {api.OK, api.ErrSyntax, api.ErrLarge, api.ErrNone, api.ErrMany, api.ErrState, api.ErrTwice},
		"dead":  {api.OK, api.ErrSyntax, api.ErrLarge, api.ErrCheck, api.ErrNone, api.ErrState},
	} {
		for _, e := range codes {
			if n := seen[first+" "+strconv.Itoa(int(e))]; n < 10 {
				t.Errorf("%d orders %s with the result %d", n, first, e)
			}
		}
	}
}
