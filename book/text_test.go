package book_test

import (
	"slices"
	"strconv"
	"strings"
	"testing"

	"wigeon/api"
	"wigeon/book"
)

func TestWrite(t *testing.T) {
	for _, x := range []struct {
		l    []string
		want string
	}{
		{nil, "pages 0 0\n"},
		{[]string{}, "pages 0 0\n"},
		{[]string{"a"}, "pages 1 355\na\n"},
		{[]string{"pages 0 0", " "}, "pages 2 " + strconv.Itoa(wantRoot([]string{"pages 0 0", " "})) + "\npages 0 0\n \n"},
	} {
		if text, e := book.Write(x.l); text != x.want || e != api.OK {
			t.Errorf("Write(%q): %q, %d, want %q", x.l, text, e, x.want)
		}
	}
}

// TestTextsOfBooks tests that each book is read from its text, whatever stands
// behind it, and as far as its text goes.
func TestTextsOfBooks(t *testing.T) {
	books(func(l []string) {
		given := slices.Clone(l)
		text := write(t, l)
		want := "pages " + strconv.Itoa(len(l)) + " " + strconv.Itoa(wantRoot(l)) + "\n"
		if len(l) > 0 {
			want += strings.Join(l, "\n") + "\n"
		}
		if text != want || !slices.Equal(l, given) {
			t.Fatalf("Write(%q): %q, want %q", given, text, want)
		}
		for _, rest := range []string{"", "\n", " ", "more", "more\n", text, "\x00\xff"} {
			pages, behind, e := book.Read(text + rest)
			if !slices.Equal(pages, l) || behind != rest || e != api.OK {
				t.Fatalf("Read(%q): %q, %q, %d", text+rest, pages, behind, e)
			}
		}
		step := len(text)/50 + 1
		for end := 0; end < len(text); end += step {
			checkRead(t, text[:end])
		}
	})
}

// checkRead tests Read of a text.
func checkRead(t *testing.T, text string) {
	t.Helper()
	pages, rest, _, want := wantRead(text)
	got, behind, e := book.Read(text)
	if !slices.Equal(got, pages) || behind != rest || e != want {
		t.Fatalf("Read(%q): %q, %q, %d, want %q, %q, %d", text, got, behind, e, pages, rest, want)
	}
}

// slips returns the texts that come from a text by leaving out a byte, by putting
// one in or by changing one.
func slips(text string) []string {
	var l []string
	for i := range len(text) + 1 {
		for _, b := range []string{"", "0", "1", "5", "9", " ", "\n", "-", "+", "\r", "\t", "_", "\x00", "p", "\x7f", "\xff"} {
			l = append(l, text[:i]+b+text[i:])
			if i < len(text) {
				l = append(l, text[:i]+b+text[i+1:])
			}
		}
	}
	return l
}

func TestReadOfSlips(t *testing.T) {
	kinds := map[api.Errno]int{}
	for _, l := range [][]string{nil, {"a"}, {"pages 1 355", "a"}, {" ", "pages 0 0", longPage}, numbered(12)} {
		for _, rest := range []string{"", "a\n"} {
			for _, slip := range slips(write(t, l) + rest) {
				checkRead(t, slip)
				_, _, e := book.Read(slip)
				kinds[e]++
			}
		}
	}
	for _, e := range []api.Errno{api.OK, api.ErrSyntax, api.ErrProof} {
		if kinds[e] < 100 {
			t.Errorf("%d texts with the result %d", kinds[e], e)
		}
	}
}

func TestRead(t *testing.T) {
	for _, x := range []struct {
		text  string
		pages []string
		rest  string
	}{
		{"pages 0 0\n", nil, ""},
		{"pages 0 0\nmore\n", nil, "more\n"},
		{"pages 1 355\na\n", []string{"a"}, ""},
		{"pages 1 355\na\nb\n", []string{"a"}, "b\n"},
		{"pages 1 355\na\n\n", []string{"a"}, "\n"},
		// With fewer pages, the root is not asked.
		{"pages 1 5\n", nil, ""},
		{"pages 64 2147483646\n", nil, ""},
		{"pages 2 0\na\n", []string{"a"}, ""},
		{"pages 2 5\na\nb", []string{"a"}, "b"},
		{"pages 2 5\na\n\nb\n", []string{"a"}, "\nb\n"},
		{"pages 2 5\na\n\tb\n", []string{"a"}, "\tb\n"},
		{"pages 2 5\na\r\nb\n", nil, "a\r\nb\n"},
		{"pages 2 5\n" + longPage + "~\nb\n", nil, longPage + "~\nb\n"},
		{"pages 2 5\n" + longPage + "\nä\n", []string{longPage}, "ä\n"},
		// A page may look like the first line.
		{"pages 2 5\npages 1 355\n", []string{"pages 1 355"}, ""},
		{"pages 3 5\npages 1 355\na\npages", []string{"pages 1 355", "a"}, "pages"},
		{"pages 0 0\npages 1 355\na\n", nil, "pages 1 355\na\n"},
	} {
		pages, rest, e := book.Read(x.text)
		if !slices.Equal(pages, x.pages) || rest != x.rest || e != api.OK {
			t.Errorf("Read(%q): %q, %q, %d, want %q, %q", x.text, pages, rest, e, x.pages, x.rest)
		}
	}
	full := "pages 64 5\n" + strings.Repeat("a\n", 63)
	if pages, rest, e := book.Read(full + "a"); len(pages) != 63 || rest != "a" || e != api.OK {
		t.Errorf("Read of 63 of 64 pages: %d, %q, %d", len(pages), rest, e)
	}
}

// unread are texts that are no books, and their errors.
var unread = []struct {
	text string
	want api.Errno
}{
	{"", api.ErrSyntax}, {"\n", api.ErrSyntax}, {"a\n", api.ErrSyntax}, {"pages\n", api.ErrSyntax}, {"pages 1\n", api.ErrSyntax}, {"pages 1 355", api.ErrSyntax},
	{"pages  1 355\na\n", api.ErrSyntax}, {"pages 1  355\na\n", api.ErrSyntax}, {"pages 1 355 \na\n", api.ErrSyntax}, {" pages 1 355\na\n", api.ErrSyntax},
	{"pages 1 355 0\na\n", api.ErrSyntax}, {"pages 01 355\na\n", api.ErrSyntax}, {"pages 1 0355\na\n", api.ErrSyntax}, {"pages 00 0\n", api.ErrSyntax}, {"pages 0 00\n", api.ErrSyntax},
	{"pages +1 355\na\n", api.ErrSyntax}, {"pages 1 +355\na\n", api.ErrSyntax}, {"pages -0 0\n", api.ErrSyntax}, {"pages 0 -0\n", api.ErrSyntax}, {"pages -1 355\n", api.ErrSyntax},
	{"pages 1 -355\na\n", api.ErrSyntax}, {"pages 65 355\na\n", api.ErrSyntax}, {"pages 0 2147483647\n", api.ErrSyntax}, {"pages 1 2147483647\n", api.ErrSyntax},
	{"pages 18446744073709551617 355\na\n", api.ErrSyntax}, {"pages 1 18446744073709551971\na\n", api.ErrSyntax}, {"pages 1 0x163\na\n", api.ErrSyntax},
	{"pages 1 3_5\na\n", api.ErrSyntax}, {"pages 1 355\r\na\n", api.ErrSyntax}, {"Pages 1 355\na\n", api.ErrSyntax}, {"page 1 355\na\n", api.ErrSyntax},
	{"pages\t1 355\na\n", api.ErrSyntax}, {"pages 1 355.\na\n", api.ErrSyntax}, {"\npages 1 355\na\n", api.ErrSyntax}, {"a\npages 1 355\na\n", api.ErrSyntax}, {"pages 1 ٣\n", api.ErrSyntax},
	{"pages 1 " + strings.Repeat("0", 100000) + "\n", api.ErrSyntax}, {strings.Repeat("pages ", 100000), api.ErrSyntax},
	{"pages 0 5\n", api.ErrProof}, {"pages 0 2147483646\nmore", api.ErrProof}, {"pages 1 5\na\n", api.ErrProof}, {"pages 1 0\na\n", api.ErrProof}, {"pages 1 355\nb\nmore", api.ErrProof},
	{"pages 2 " + strconv.Itoa(wantJoin(355, 356)) + "\nb\na\n", api.ErrProof},
}

func TestReadRefuses(t *testing.T) {
	for _, x := range unread {
		if pages, rest, e := book.Read(x.text); len(pages) != 0 || rest != "" || e != x.want {
			t.Errorf("Read(%q): %q, %q, %d, want %d", x.text, pages, rest, e, x.want)
		}
	}
}

func TestMerge(t *testing.T) {
	full := numbered(64)
	for _, n := range []int{0, 1, 2, 3, 31, 32, 33, 63, 64} {
		long := write(t, full[:n])
		for m := range n + 1 {
			short := write(t, full[:m])
			if text, pages, e := book.Merge(short, long); text != long || pages != n || e != api.OK {
				t.Fatalf("Merge of %d and %d pages: %q, %d, %d", m, n, text, pages, e)
			}
			if text, pages, e := book.Merge(long, short); text != long || pages != n || e != api.OK {
				t.Fatalf("Merge of %d and %d pages: %q, %d, %d", n, m, text, pages, e)
			}
		}
		for differs := range n {
			other := slices.Clone(full)
			other[differs] = "other"
			for _, m := range []int{differs + 1, 64} {
				text := write(t, other[:m])
				for _, pair := range [][2]string{{long, text}, {text, long}} {
					if merged, common, e := book.Merge(pair[0], pair[1]); merged != "" || common != differs || e != api.ErrProof {
						t.Fatalf("Merge(%q, %q): %q, %d, %d, want %d", pair[0], pair[1], merged, common, e, differs)
					}
				}
			}
		}
	}
}

// TestMergeRefuses tests the errors of Merge for all pairs of texts of many kinds,
// and which one comes first.
func TestMergeRefuses(t *testing.T) {
	whole := write(t, numbered(3))
	texts := []string{
		whole, write(t, nil), write(t, []string{"a"}), write(t, []string{"a", "b"}), write(t, numbered(2)), write(t, []string{"page 0", "b"}), write(t, []string{"pages 0 0"}),
		whole + "more", whole + "\n", "pages 0 0\n\n", // with a rest
		whole[:len(whole)-1], "pages 1 5\n", "pages 3 5\na\n", "pages 3 5\na\n\n", // that lack pages
	}
	for _, x := range unread {
		texts = append(texts, x.text)
	}
	kinds := map[api.Errno]int{}
	for _, a := range texts {
		for _, b := range texts {
			text, n, e := book.Merge(a, b)
			wantText, wantN, want := wantMerge(a, b)
			if text != wantText || n != wantN || e != want {
				t.Fatalf("Merge(%q, %q): %q, %d, %d, want %q, %d, %d", a, b, text, n, e, wantText, wantN, want)
			}
			kinds[e]++
		}
	}
	for _, e := range []api.Errno{api.OK, api.ErrSyntax, api.ErrProof, api.ErrState} {
		if kinds[e] < 10 {
			t.Errorf("%d pairs with the result %d", kinds[e], e)
		}
	}
}

// wantMerge compares two books by what wantRead reads.
func wantMerge(a, b string) (string, int, api.Errno) {
	pagesA, restA, n, e := wantRead(a)
	if e != api.OK {
		return "", 0, e
	}
	pagesB, restB, m, e := wantRead(b)
	if e != api.OK {
		return "", 0, e
	}
	if len(pagesA) != n || len(pagesB) != m || restA != "" || restB != "" {
		return "", 0, api.ErrState
	}
	same := 0
	for same < min(n, m) && pagesA[same] == pagesB[same] {
		same++
	}
	if same < n && same < m {
		return "", same, api.ErrProof
	}
	if m > n {
		return b, m, api.OK
	}
	return a, n, api.OK
}

// TestMemory tests that a result that is changed changes neither an argument nor
// what the next call returns.
func TestMemory(t *testing.T) {
	books(func(l []string) {
		given := slices.Clone(l)
		text := write(t, l)
		read, _, _ := book.Read(text)
		clear(read)
		for i := range l {
			proof, _ := book.Proof(l, i)
			growth, _ := book.Growth(l, i+1)
			clear(proof)
			clear(growth)
			proof, _ = book.Proof(l, i)
			growth, _ = book.Growth(l, i+1)
			if !slices.Equal(proof, wantProof(given, i)) || !slices.Equal(growth, wantGrowth(given, i+1)) {
				t.Fatalf("Proof or Growth of %q at %d: now %d, %d", given, i, proof, growth)
			}
		}
		if again, _, e := book.Read(text); !slices.Equal(again, given) || e != api.OK || !slices.Equal(l, given) {
			t.Fatalf("Read(%q): now %q, %d; the pages %q", text, again, e, l)
		}
	})
}
