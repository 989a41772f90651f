package doc_test

import (
	"slices"
	"strings"
	"testing"

	"tripartite/doc"
	"tripartite/sample"
)

func text(s string) doc.Part { return doc.Part{Text: s} }

func conflict(left, right string) doc.Part {
	return doc.Part{Hunk: true, Left: left, Right: right}
}

func labels(left, base, right string) doc.Labels {
	return doc.Labels{LeftLabel: left, BaseLabel: base, RightLabel: right}
}

// P7.1: labels have no line's end; a Part's call is that of its Labels.
func TestPlain(t *testing.T) {
	for _, l := range []doc.Labels{{}, labels("a", "b", "c"), labels(" ", "\r", "\xff")} {
		if !l.Plain() || !(doc.Part{Labels: l}).Plain() {
			t.Errorf("%q isn't Plain", l)
		}
	}
	for _, l := range []doc.Labels{labels("\n", "", ""), labels("", "b\n", ""), labels("", "", "\nc")} {
		if l.Plain() || (doc.Part{Labels: l}).Plain() {
			t.Errorf("%q is Plain", l)
		}
	}
}

// P7.1: what may be a Doc.
func TestRight(t *testing.T) {
	full := doc.Part{Labels: labels("l", "b", "r"), Hunk: true, Left: "a", Base: "b", Right: "c", HasBase: true}
	for i, d := range []doc.Doc{
		nil,
		{},
		{text("a")},
		{text("a\nb")},
		{text("a\n"), conflict("", "")},
		{conflict("a", "b"), conflict("c", "d")},
		{conflict("a", "b"), text("c")},
		{text("\n"), full, text("a\n"), full, text("b")},
		{{Hunk: true, HasBase: true, Labels: labels("", "b", "")}},
		{{Hunk: true, Labels: labels("l", "", "r")}},
	} {
		if !d.Right() {
			t.Error(i, d, "isn't Right")
		}
	}
	for i, d := range []doc.Doc{
		{text("")},
		{text("a\n"), text("")},
		{text("a\n"), text("b\n")},
		{conflict("a", "b"), text("c\n"), text("d")},
		{text("a"), conflict("b", "c")},
		{conflict("b", "c"), text("a"), conflict("b", "c")},
		{text("a\nb"), conflict("b", "c")},
		{conflict("a", "b"), text("")},
		{{Text: "a\n", Left: "b"}},
		{{Text: "a\n", Right: "b"}},
		{{Text: "a\n", Base: "b"}},
		{{Text: "a\n", HasBase: true}},
		{{Text: "a\n", Labels: labels("l", "", "")}},
		{{Text: "a\n", Labels: labels("", "b", "")}},
		{{Text: "a\n", Labels: labels("", "", "r")}},
		{{Hunk: true, Text: "a\n"}},
		{{Hunk: true, Base: "b"}},
		{{Hunk: true, Labels: labels("", "b", "")}},
		{{Hunk: true, Labels: labels("\n", "", "")}},
		{{Hunk: true, HasBase: true, Labels: labels("", "b\n", "")}},
		{{Hunk: true, Labels: labels("", "", "r\nr")}},
		{full, {Hunk: true, Text: "x"}},
	} {
		if d.Right() {
			t.Error(i, d, "is Right")
		}
	}
}

// P7.1: text that is empty goes, text behind text is made one, all else stays.
func TestOf(t *testing.T) {
	c := conflict("a", "b")
	for i, x := range []struct{ parts, want []doc.Part }{
		{nil, nil},
		{[]doc.Part{text(""), text("")}, nil},
		{[]doc.Part{text("a\n"), text("b\n"), text("")}, []doc.Part{text("a\nb\n")}},
		{[]doc.Part{text("a"), text(""), text("b"), c, text(""), c, text("d"), text("e")}, []doc.Part{text("ab"), c, c, text("de")}},
		{[]doc.Part{c, text("a")}, []doc.Part{c, text("a")}},
		{[]doc.Part{{Hunk: true, Text: "a", Base: "b"}, {Hunk: true}}, []doc.Part{{Hunk: true, Text: "a", Base: "b"}, {Hunk: true}}},
		{[]doc.Part{text("a"), {Left: "b"}, text("c")}, []doc.Part{text("a"), {Left: "b"}, text("c")}},
	} {
		if d := doc.Of(x.parts...); !slices.Equal(d, x.want) {
			t.Error(i, d)
		}
	}
}

// P7.1: of all short Docs: Of makes Right what has no line that goes on in the next Part.
func TestOfAll(t *testing.T) {
	for _, parts := range sample.Lists(5, text(""), text("a\n"), text("b"), conflict("a", "b")) {
		d := doc.Of(parts...)
		goesOn, conflicts, all := false, 0, ""
		for i, p := range d {
			goesOn = goesOn || !p.Hunk && i < len(d)-1 && !strings.HasSuffix(p.Text, "\n")
			if i > 0 && !p.Hunk && !d[i-1].Hunk || !p.Hunk && p.Text == "" {
				t.Fatal(parts, d)
			}
		}
		for _, p := range parts {
			all += p.Text
			if p.Hunk {
				conflicts++
				all += "|"
			}
		}
		got := ""
		for _, p := range d {
			got += p.Text
			if p.Hunk {
				got += "|"
			}
		}
		if d.Right() == goesOn || d.Conflicts() != conflicts || got != all {
			t.Fatal(parts, d)
		}
	}
}

// P7.1: many texts are joined within a moment.
func TestOfManyTexts(t *testing.T) {
	parts := make([]doc.Part, 300000)
	for i := range parts {
		parts[i] = text("some line\n")
	}
	if d := doc.Of(parts...); len(d) != 1 || len(d[0].Text) != 3000000 {
		t.Error(len(d))
	}
}

// P7.1: how many conflicts there are.
func TestConflicts(t *testing.T) {
	c := conflict("a", "b")
	if n := (doc.Doc{c, text("a\n"), c, c, text("b")}).Conflicts(); n != 3 {
		t.Error(n)
	}
	if n := (doc.Doc{text("<<<<<<<\n")}).Conflicts() + doc.Doc(nil).Conflicts(); n != 0 {
		t.Error(n)
	}
}

// P7.1: markers are wider than each line's Run, and at least so wide.
func TestWidth(t *testing.T) {
	for i, c := range []struct {
		least int
		texts []string
		want  int
	}{
		{7, nil, 7},
		{7, []string{"========"}, 9},
		{7, []string{"<<<<<<"}, 7},
		{7, []string{"<<<<<<<"}, 8},
		{1, []string{"a", ""}, 1},
		{0, nil, 1},
		{-5, []string{"a"}, 1},
		{-5, []string{"|"}, 2},
		{3, []string{"a\n>>>>\nb", "", "x\n====="}, 6},
		{3, []string{"a>>>>>>>>"}, 3},
		{1<<63 - 1, []string{"<<"}, 1<<63 - 1},
	} {
		if n := doc.Width(c.least, c.texts...); n != c.want {
			t.Error(i, n)
		}
	}
}

// P7.1: no line of text or of a side has a Run of the width.
func TestFits(t *testing.T) {
	for i, p := range []doc.Part{
		{Text: "a\n<<<<\n"}, {Hunk: true, Left: "===="}, {Hunk: true, Base: "a\n||||b\n", HasBase: true}, {Hunk: true, Right: ">>>>a"},
	} {
		d := doc.Doc{text("x\n"), conflict("", ""), p}
		if d.Fits(4) || !d.Fits(5) || d.Fits(1) || d.Fits(0) || d.Fits(-1) {
			t.Error(i)
		}
	}
	named := doc.Doc{{Hunk: true, Labels: labels("<<<<<<<", "", ">>>>>>>")}}
	if !named.Fits(1) || !doc.Doc(nil).Fits(1) || doc.Doc(nil).Fits(0) {
		t.Error("fits")
	}
}

// P7.1: Docs are the same just if all Parts are.
func TestSame(t *testing.T) {
	lists := sample.Lists(3, text("a\n"), conflict("a", "b"), conflict("b", "a"), doc.Part{Hunk: true, Labels: labels("", "", "a")})
	for i, a := range lists {
		for j, b := range lists {
			if doc.Same(a, b) != (i == j) {
				t.Fatal(a, b)
			}
		}
	}
	if !doc.Same(nil, doc.Doc{}) {
		t.Error("nil and empty Docs are one")
	}
}

// P7.2: what is handed in stays as it is, its spare room too; answers are new memory.
func TestMemory(t *testing.T) {
	parts, keptParts := sample.Guard([]doc.Part{conflict("a", "b"), text("a\n"), text("b")}, text("spare"))
	texts, keptTexts := sample.Guard([]string{"a", "<<\n"}, "spare")
	one, two := doc.Of(parts...), doc.Of(parts...)
	d := doc.Doc(parts)
	d.Right()
	d.Fits(3)
	d.Conflicts()
	doc.Same(d, one)
	doc.Width(1, texts...)
	clear(one)
	_ = append(two, text("new"))
	if !keptParts() || !keptTexts() || two[0] != conflict("a", "b") {
		t.Error(parts, texts, two)
	}
}
