package book

import (
	"strings"

	"wigeon/api"
)

// reading is what has been read of a book.
type reading struct {
	isBegun bool
	head    head
	pages   []string
	rest    string // the text behind the pages
}

// Write returns a book as a text with a line for its head and for each page.
func Write(l []string) (string, api.Errno) {
	if e := ValidatePages(l); e != api.OK {
		return "", e
	}
	var text strings.Builder
	text.WriteString(head{pages: len(l), root: rootOf(sumsOf(l))}.text() + "\n")
	for _, page := range l {
		text.WriteString(page + "\n")
	}
	return text.String(), api.OK
}

// Read returns the pages of a book, as far as they are there, and the rest of
// the text behind them.
func Read(text string) ([]string, string, api.Errno) {
	r, e := read(text)
	return r.pages, r.rest, e
}

// Merge returns the longer one of two books of which one is a beginning of the
// other, and the number of its pages. With api.ErrProof it returns how many
// pages they have in common.
func Merge(a, b string) (string, int, api.Errno) {
	first, e := read(a)
	if e != api.OK {
		return "", 0, e
	}
	second, e := read(b)
	if e != api.OK {
		return "", 0, e
	}
	if !first.isWhole() || !second.isWhole() {
		return "", 0, api.ErrState
	}
	n := common(first.pages, second.pages)
	switch n {
	case len(second.pages):
		return a, len(first.pages), api.OK
	case len(first.pages):
		return b, len(second.pages), api.OK
	}
	return "", n, api.ErrProof
}

// read reads a book as far as it is there.
func read(text string) (reading, api.Errno) {
	r := reading{rest: text}
	for {
		l, rest := cutLine(r.rest)
		if !r.take(l) {
			break
		}
		r.rest = rest
	}
	if !r.isBegun {
		return reading{}, api.ErrSyntax
	}
	if !r.lacksPages() && rootOf(sumsOf(r.pages)) != r.head.root {
		return reading{}, api.ErrProof
	}
	return r, api.OK
}

// take takes the next line, and reports whether it belongs to the book.
func (r *reading) take(l line) bool {
	switch x := l.(type) {
	case head:
		if !r.isBegun {
			r.isBegun, r.head = true, x
			return true
		}
		// Behind the first line, a head is a page like others.
		return r.add(x.text())
	case sheet:
		return r.add(x.text())
	}
	return false
}

// add adds a page, and reports whether the book lacks one.
func (r *reading) add(page string) bool {
	if !r.lacksPages() {
		return false
	}
	r.pages = append(r.pages, page)
	return true
}

func (r *reading) lacksPages() bool {
	return len(r.pages) < r.head.pages
}

func (r *reading) isWhole() bool {
	return !r.lacksPages() && r.rest == ""
}
