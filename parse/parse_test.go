package parse_test

import (
	"strings"
	"testing"

	"tripartite/api"
	"tripartite/doc"
	"tripartite/lines"
	"tripartite/mark"
	"tripartite/parse"
	"tripartite/sample"
)

func labels(left, base, right string) doc.Labels {
	return doc.Labels{LeftLabel: left, BaseLabel: base, RightLabel: right}
}

// P9.1: some texts that are Docs' prints.
func TestText(t *testing.T) {
	for i, c := range []struct {
		s     string
		width int
		want  doc.Doc
	}{
		{"", 7, nil},
		{"", 1 << 30, nil},
		{"a", 7, doc.Doc{{Text: "a"}}},
		{"a\n\nb", 7, doc.Doc{{Text: "a\n\nb"}}},
		{"<<<<<<<\na\n=======\n>>>>>>>\n", 7, doc.Doc{{Hunk: true, Left: "a\n"}}},
		{"<<<<<<<\na\n=======!\nb\n>>>>>>>\n", 7, doc.Doc{{Hunk: true, Left: "a", Right: "b\n"}}},
		{"<<<<<<<\na\n=======\n>>>>>>>\n", 8, doc.Doc{{Text: "<<<<<<<\na\n=======\n>>>>>>>\n"}}},
		{"x\n< l\n| b\n=\n> r\ny", 1, doc.Doc{{Text: "x\n"}, {Hunk: true, HasBase: true, Labels: labels("l", "b", "r")}, {Text: "y"}}},
		{"<<\na\nb\n||!\n\n==\nc\nd\n>>!\n<<\n==\n>>\n", 2, doc.Doc{{Hunk: true, HasBase: true, Left: "a\nb", Base: "\n", Right: "c\nd"}, {Hunk: true}}},
		{"<<\n<\n==!\n=\n>>!\n", 2, doc.Doc{{Hunk: true, Left: "<", Right: "="}}},
	} {
		if d, e, n := parse.Text(c.s, c.width); !doc.Same(d, c.want) || e != api.OK || n != 0 {
			t.Errorf("%d: %v %v %d", i, d, e, n)
		}
	}
}

// P9.1: what is wrong, and in which line.
func TestTextOther(t *testing.T) {
	for i, c := range []struct {
		s     string
		width int
		e     api.Errno
		n     int
	}{
		{"<<<<<<<\na\n>>>>>>>\n", 7, api.ErrStray, 3},
		{"a", 0, api.ErrWidth, 0},
		{"<<", -1, api.ErrWidth, 0},
		{"<<", 1<<30 + 1, api.ErrWidth, 0},
		{"a\n<<<\n", 2, api.ErrMalformed, 2},
		{"<<", 2, api.ErrMalformed, 1},
		{"<<\n<<!\n", 2, api.ErrMalformed, 2},
		{"<<\n=== \n", 2, api.ErrMalformed, 2},
		{"<<\n==\n>>", 2, api.ErrMalformed, 3},
		{"<<\n<<\n", 2, api.ErrNested, 2},
		{"<<\n||\n<< a\n", 2, api.ErrNested, 3},
		{"<<\n==\na\n<<\n", 2, api.ErrNested, 4},
		{"||\n", 2, api.ErrStray, 1},
		{"==!\n", 2, api.ErrStray, 1},
		{">>!\n", 2, api.ErrStray, 1},
		{"<<\n||\n||\n", 2, api.ErrStray, 3},
		{"<<\n==\n||!\n", 2, api.ErrStray, 3},
		{"<<\n==\n==!\n", 2, api.ErrStray, 3},
		{"<<\n||\n>>!\n", 2, api.ErrStray, 3},
		{"<<\n==\n>>\na\n==\n", 2, api.ErrStray, 5},
		{"<<\n==!\n", 2, api.ErrFlag, 2},
		{"<<\n\n==!\n", 2, api.ErrFlag, 3},
		{"<<\na\n\n||!\n", 2, api.ErrFlag, 4},
		{"<<\na\n||\n==!\n", 2, api.ErrFlag, 4},
		{"<<\na\n==\n>>!\n", 2, api.ErrFlag, 4},
		{"a\n<<\n", 2, api.ErrUnclosed, 3},
		{"<<\na", 2, api.ErrUnclosed, 3},
		{"<<\na\n||!\nb", 2, api.ErrUnclosed, 5},
		{"<<\n==\n", 2, api.ErrUnclosed, 3},
		{"<<\n==\nb\n", 2, api.ErrUnclosed, 4},
	} {
		if d, e, n := parse.Text(c.s, c.width); d != nil || e != c.e || n != c.n {
			t.Errorf("%d: %v %v %d", i, d, e, n)
		}
	}
}

// sides are all texts of n lines, a or empty ones, the last of which may lack its end.
func sides(n int) []string {
	var all []string
	for _, l := range sample.Lists(n, "a\n", "\n") {
		if len(l) < n {
			continue
		}
		s := lines.Join(l...)
		all = append(all, s)
		if strings.HasSuffix(s, "a\n") {
			all = append(all, strings.TrimSuffix(s, "\n"))
		}
	}
	return all
}

// conflicts are all that are printed in n lines, without labels.
func conflicts(n int) []doc.Part {
	var all []doc.Part
	for left := 0; left <= n-3; left++ {
		for _, l := range sides(left) {
			for _, r := range sides(n - 3 - left) {
				all = append(all, doc.Part{Hunk: true, Left: l, Right: r})
			}
			for base := 0; base <= n-4-left; base++ {
				for _, b := range sides(base) {
					for _, r := range sides(n - 4 - left - base) {
						all = append(all, doc.Part{Hunk: true, HasBase: true, Left: l, Base: b, Right: r})
					}
				}
			}
		}
	}
	return all
}

// docs are all Docs that are printed in n lines.
func docs(n int, textAhead bool) []doc.Doc {
	if n == 0 {
		return []doc.Doc{nil}
	}
	var all []doc.Doc
	for k := 1; k <= n; k++ {
		var first []doc.Part
		if !textAhead {
			for _, s := range sides(k) {
				first = append(first, doc.Part{Text: s})
			}
		}
		for _, p := range append(first, conflicts(k)...) {
			for _, d := range docs(n-k, !p.Hunk) {
				if d := append(doc.Doc{p}, d...); d.Right() {
					all = append(all, d)
				}
			}
		}
	}
	return all
}

// P9.2, P5: each Doc is told by its print, and what is told has just that print.
func TestPrintIsParsed(t *testing.T) {
	for n := range 7 {
		for _, d := range docs(n, false) {
			for i := range d {
				if d[i].Hunk && i%2 == 0 {
					d[i].Labels = labels("l", "", "! r")
				}
			}
			s, e := mark.Print(d, 2)
			if e != api.OK {
				t.Fatal(d, e)
			}
			if got, e, at := parse.Text(s, 2); !doc.Same(got, d) || e != api.OK || at != 0 {
				t.Fatalf("%q: %v %v %d", s, got, e, at)
			}
		}
	}
}

// prints are those of all Docs of at most n lines, with markers of two signs.
func prints(n int) map[string]doc.Doc {
	all := map[string]doc.Doc{}
	for k := range n + 1 {
		for _, d := range docs(k, false) {
			s, _ := mark.Print(d, 2)
			all[s] = d
		}
	}
	return all
}

// goesOn tells whether some lines are the beginning of a print: behind each
// marker the shortest way to an end is tried.
func goesOn(l []string, all map[string]doc.Doc) bool {
	s := lines.Join(l...)
	if !strings.HasSuffix(s, "\n") && s != "" {
		if _, ok := all[s]; ok {
			return true
		}
		if lines.Run(l[len(l)-1]) >= 2 {
			return false
		}
		s += "\n"
	}
	for _, rest := range []string{"", ">>\n", "==\n>>\n"} {
		if _, ok := all[s+rest]; ok {
			return true
		}
	}
	return false
}

// P9.1, P5: of all short texts: what is a print is parsed to its Doc, of what
// isn't the first line is told that no print goes on with.
func TestTextOfAll(t *testing.T) {
	all := prints(7)
	for _, l := range sample.Lists(4, "a\n", "\n", "<<\n", "||\n", "||!\n", "==\n", "==!\n", ">>\n", ">>!\n", "<<!\n", "===\n") {
		for _, last := range []string{"", "a", "<<"} {
			l := l
			if last != "" {
				l = append(l[:len(l):len(l)], last)
			}
			checkText(t, l, all)
		}
	}
}

func checkText(t *testing.T, l []string, all map[string]doc.Doc) {
	t.Helper()
	s := lines.Join(l...)
	got, e, n := parse.Text(s, 2)
	if d, ok := all[s]; ok {
		if !doc.Same(got, d) || e != api.OK || n != 0 {
			t.Fatalf("%q: %v %v %d", s, got, e, n)
		}
		return
	}
	want := 1
	for want <= len(l) && goesOn(l[:want], all) {
		want++
	}
	if got != nil || e == api.OK || n != want || (e == api.ErrUnclosed) != (n == len(l)+1) {
		t.Fatalf("%q: %v %v %d, not %d", s, got, e, n, want)
	}
}

// P9.1: the least width by which there is a conflict, tried one by one.
func TestBest(t *testing.T) {
	all := sample.Lists(3, "a\n", "<\n", "=\n", ">\n", "<<\n", "==\n", ">>\n")
	all = append(all, []string{"<<<\n", "===\n", ">>>\n", "==\n"}, []string{"<<<\n", "=\n", "===\n", "a\n", ">>>!\n", "a"},
		[]string{"<<\n", "==\n", ">>\n", "==="}, []string{"<\n", "<<\n", "=\n", ">\n"}, []string{"<<", "==", ">>"})
	for _, l := range all {
		s := lines.Join(l...)
		for least := -2; least < 6; least++ {
			want, found := 0, false
			for w := max(least, 1); w <= lines.Longest(l)+1 && !found; w++ {
				if d, e, _ := parse.Text(s, w); e == api.OK && d.Conflicts() > 0 {
					want, found = w, true
				}
			}
			if w, ok := parse.Best(s, least); w != want || ok != found {
				t.Fatalf("%q %d: %d %t", s, least, w, ok)
			}
		}
	}
	if w, ok := parse.Best("<<<\n=\n===\n>>>\n", 1); w != 3 || !ok {
		t.Error(w, ok)
	}
	if w, ok := parse.Best("", -1<<63); w != 0 || ok {
		t.Error(w, ok)
	}
	if w, ok := parse.Best("<\n=\n>\n", 1<<63-1); w != 0 || ok {
		t.Error(w, ok)
	}
}

// P9.1: a long text with a long Run is done within a moment.
func TestBestOfLongRun(t *testing.T) {
	s := strings.Repeat("a line\n", 100000) + strings.Repeat("=", 1000000) + "\n"
	if w, ok := parse.Best(s, 1); w != 0 || ok {
		t.Error(w, ok)
	}
}

// P9.3: answers are new memory.
func TestMemory(t *testing.T) {
	s := "a\n<\n=\n>\nb"
	one, _, _ := parse.Text(s, 1)
	two, _, _ := parse.Text(s, 1)
	clear(one)
	_ = append(one[:1], doc.Part{Text: "new"})
	want := doc.Doc{{Text: "a\n"}, {Hunk: true}, {Text: "b"}}
	if !doc.Same(two, want) {
		t.Error(two)
	}
}
