package book

import (
	"strconv"
	"strings"

	"wigeon/api"
)

// headWord begins the first line of a book.
const headWord = "pages "

// line is what a line of a text is: a head or a sheet, and nil if it is neither.
type line interface {
	text() string
}

// head is a line that can be the first one of a book. It can be a page, too.
type head struct {
	pages, root int
}

// sheet is any other line that can be a page.
type sheet string

func (h head) text() string {
	return headWord + strconv.Itoa(h.pages) + " " + strconv.Itoa(h.root)
}

func (s sheet) text() string {
	return string(s)
}

// cutLine returns the line at the beginning of a text, and the text behind it.
func cutLine(text string) (line, string) {
	first, rest, isEnded := strings.Cut(text, "\n")
	if !isEnded || !IsPage(first) {
		return nil, rest
	}
	if h, isHead := headOf(first); isHead {
		return h, rest
	}
	return sheet(first), rest
}

// headOf returns the head that a line is, and whether it is one.
func headOf(text string) (head, bool) {
	words, hasWord := strings.CutPrefix(text, headWord)
	pages, root, hasRoot := strings.Cut(words, " ")
	if !hasWord || !hasRoot {
		return head{}, false
	}
	n, badPages := strconv.Atoi(pages)
	x, badRoot := strconv.Atoi(root)
	if badPages != nil || badRoot != nil || n < 0 || n > api.MaxPages || !isSum(x) {
		return head{}, false
	}
	// A number can be read from several texts (0 from 00): only one is right.
	h := head{pages: n, root: x}
	return h, h.text() == text
}
