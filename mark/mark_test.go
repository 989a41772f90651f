package mark_test

import (
	"strings"
	"testing"

	"tripartite/api"
	"tripartite/doc"
	"tripartite/mark"
	"tripartite/sample"
)

// P8.1: the lines of some markers.
func TestLine(t *testing.T) {
	for i, c := range []struct {
		m     mark.Marker
		width int
		want  string
		e     api.Errno
	}{
		{mark.Marker{Kind: mark.Open}, 7, "<<<<<<<\n", api.OK},
		{mark.Marker{Kind: mark.Open, Label: "a b"}, 1, "< a b\n", api.OK},
		{mark.Marker{Kind: mark.Base, Flag: true, Label: " "}, 2, "||!  \n", api.OK},
		{mark.Marker{Kind: mark.Base, Label: "!"}, 2, "|| !\n", api.OK},
		{mark.Marker{Kind: mark.Mid}, 3, "===\n", api.OK},
		{mark.Marker{Kind: mark.Mid, Flag: true}, 3, "===!\n", api.OK},
		{mark.Marker{Kind: mark.Close, Flag: true, Label: "\xff"}, 3, ">>>! \xff\n", api.OK},
		{mark.Marker{Kind: mark.Open, Flag: true}, 7, "", api.ErrMalformed},
		{mark.Marker{Kind: mark.Mid, Label: "a"}, 7, "", api.ErrMalformed},
		{mark.Marker{Kind: mark.Open, Label: "a\n"}, 7, "", api.ErrMalformed},
		{mark.Marker{Kind: mark.Base, Label: "\n"}, 7, "", api.ErrMalformed},
		{mark.Marker{Kind: mark.Close, Label: "\na"}, 7, "", api.ErrMalformed},
		{mark.Marker{}, 7, "", api.ErrMalformed},
		{mark.Marker{Kind: 'a'}, 7, "", api.ErrMalformed},
		{mark.Marker{Kind: '!'}, 7, "", api.ErrMalformed},
		{mark.Marker{Kind: mark.Open}, 0, "", api.ErrWidth},
		{mark.Marker{Kind: 'a'}, -1, "", api.ErrWidth},
		{mark.Marker{Kind: 'a'}, 1<<30 + 1, "", api.ErrWidth},
		{mark.Marker{Kind: 'a'}, 1 << 30, "", api.ErrMalformed},
		{mark.Marker{Kind: mark.Mid}, 1<<63 - 1, "", api.ErrWidth},
	} {
		if s, e := mark.Line(c.m, c.width); s != c.want || e != c.e {
			t.Errorf("%d: %q %v", i, s, e)
		}
	}
}

// P8.1: lines that are no markers, and such as can't be.
func TestRead(t *testing.T) {
	for i, c := range []struct {
		line  string
		width int
		m     mark.Marker
		ok    bool
		e     api.Errno
	}{
		{"", 1, mark.Marker{}, false, api.OK},
		{"a\n", 1, mark.Marker{}, false, api.OK},
		{"<<\n", 3, mark.Marker{}, false, api.OK},
		{"<<=\n", 3, mark.Marker{}, false, api.OK},
		{" <<<\n", 3, mark.Marker{}, false, api.OK},
		{"<", 1 << 30, mark.Marker{}, false, api.OK},
		{"<<<\n", 3, mark.Marker{Kind: mark.Open}, true, api.OK},
		{"=\n", 1, mark.Marker{Kind: mark.Mid}, true, api.OK},
		{"|||! a \n", 3, mark.Marker{Kind: mark.Base, Flag: true, Label: "a "}, true, api.OK},
		{">>> !\n", 3, mark.Marker{Kind: mark.Close, Label: "!"}, true, api.OK},
		{">>>", 3, mark.Marker{}, false, api.ErrMalformed},
		{">>>>\n", 3, mark.Marker{}, false, api.ErrMalformed},
		{">>>!!\n", 3, mark.Marker{}, false, api.ErrMalformed},
		{">>>a\n", 3, mark.Marker{}, false, api.ErrMalformed},
		{">>>!a\n", 3, mark.Marker{}, false, api.ErrMalformed},
		{">>> \n", 3, mark.Marker{}, false, api.ErrMalformed},
		{">>>! \n", 3, mark.Marker{}, false, api.ErrMalformed},
		{">>> a", 3, mark.Marker{}, false, api.ErrMalformed},
		{">>>\n\n", 3, mark.Marker{}, false, api.ErrMalformed},
		{">>> a\nb\n", 3, mark.Marker{}, false, api.ErrMalformed},
		{">>>\r\n", 3, mark.Marker{}, false, api.ErrMalformed},
		{"<<<!\n", 3, mark.Marker{}, false, api.ErrMalformed},
		{"=== a\n", 3, mark.Marker{}, false, api.ErrMalformed},
		{"===! a\n", 3, mark.Marker{}, false, api.ErrMalformed},
		{"<<<\n", 0, mark.Marker{}, false, api.ErrWidth},
		{"", -1, mark.Marker{}, false, api.ErrWidth},
		{"<<<", 1<<30 + 1, mark.Marker{}, false, api.ErrWidth},
	} {
		if m, ok, e := mark.Read(c.line, c.width); m != c.m || ok != c.ok || e != c.e {
			t.Errorf("%d: %v %t %v", i, m, ok, e)
		}
	}
}

// P8.2: a marker's line is read to just that marker.
func TestLineIsRead(t *testing.T) {
	for _, kind := range []byte{mark.Open, mark.Base, mark.Mid, mark.Close, 'a', 0} {
		for _, flag := range []bool{false, true} {
			for _, label := range sample.Lists(3, byte('a'), ' ', '!', '<', '>', '\n') {
				for width := 1; width < 4; width++ {
					m := mark.Marker{Kind: kind, Flag: flag, Label: string(label)}
					line, e := mark.Line(m, width)
					if e != api.OK {
						continue
					}
					if got, ok, e := mark.Read(line, width); got != m || !ok || e != api.OK {
						t.Fatalf("%v: %q: %v %t %v", m, line, got, ok, e)
					}
				}
			}
		}
	}
}

// P8.2: what is read has just that line; a marker's is all that has its Run, or it is malformed.
func TestReadIsLine(t *testing.T) {
	for _, bytes := range sample.Lists(6, byte('<'), '=', '|', '!', ' ', '\n') {
		line := string(bytes)
		m, ok, e := mark.Read(line, 2)
		back, f := mark.Line(m, 2)
		starts := len(line) > 1 && line[0] == line[1] && strings.IndexByte("<=|", line[0]) >= 0
		switch {
		case ok && (e != api.OK || f != api.OK || back != line):
			t.Fatalf("%q: %v %v: %q", line, m, e, back)
		case !ok && m != mark.Marker{}:
			t.Fatalf("%q: %v", line, m)
		case starts != (ok || e == api.ErrMalformed):
			t.Fatalf("%q: %t %v", line, ok, e)
		}
	}
}

func labels(left, base, right string) doc.Labels {
	return doc.Labels{LeftLabel: left, BaseLabel: base, RightLabel: right}
}

// P8.1: the texts of some Docs; a side that lacks its end has one, and a flag behind it.
func TestPrint(t *testing.T) {
	for i, c := range []struct {
		d     doc.Doc
		width int
		want  string
	}{
		{nil, 1, ""},
		{doc.Doc{{Text: "a\nb"}}, 7, "a\nb"},
		{doc.Doc{{Hunk: true, Left: "a", Right: "b\n"}}, 7, "<<<<<<<\na\n=======!\nb\n>>>>>>>\n"},
		{doc.Doc{{Hunk: true, Left: "a\n", Right: "b"}}, 1, "<\na\n=\nb\n>!\n"},
		{doc.Doc{{Hunk: true}}, 2, "<<\n==\n>>\n"},
		{doc.Doc{{Hunk: true, HasBase: true}}, 2, "<<\n||\n==\n>>\n"},
		{
			doc.Doc{{Text: "x\n"}, {Hunk: true, HasBase: true, Labels: labels("l", "b", "r"), Left: "1", Base: "2", Right: "3"}, {Text: "y"}}, 2,
			"x\n<< l\n1\n||! b\n2\n==!\n3\n>>! r\ny",
		},
		{
			doc.Doc{{Hunk: true, HasBase: true, Left: "1\n2", Base: "\n"}, {Hunk: true, Labels: labels("l", "", ""), Right: "\n\n"}}, 3,
			"<<<\n1\n2\n|||!\n\n===\n>>>\n<<< l\n===\n\n\n>>>\n",
		},
	} {
		if s, e := mark.Print(c.d, c.width); s != c.want || e != api.OK {
			t.Errorf("%d: %q %v", i, s, e)
		}
	}
}

// P8.1: what isn't printed, and which error is the first.
func TestPrintOther(t *testing.T) {
	wrong := doc.Doc{{Text: ""}, {Text: "<<<<<<<"}}
	wide := doc.Doc{{Text: "<<<<<<<\n"}}
	for i, c := range []struct {
		d     doc.Doc
		width int
		e     api.Errno
	}{
		{wrong, 0, api.ErrWidth},
		{wrong, -1, api.ErrWidth},
		{wrong, 1<<30 + 1, api.ErrWidth},
		{nil, 0, api.ErrWidth},
		{wrong, 7, api.ErrForm},
		{doc.Doc{{Hunk: true, Text: "a"}}, 7, api.ErrForm},
		{wide, 7, api.ErrWidth},
		{wide, 6, api.ErrWidth},
		{doc.Doc{{Hunk: true, Right: ">"}}, 1, api.ErrWidth},
		{wide, 8, api.OK},
		{wide, 1 << 30, api.OK},
	} {
		if s, e := mark.Print(c.d, c.width); e != c.e || e != api.OK && s != "" {
			t.Errorf("%d: %q %v", i, s, e)
		}
	}
}

// P8.3: what is handed in stays as it is, its spare room too.
func TestMemory(t *testing.T) {
	d, kept := sample.Guard([]doc.Part{{Text: "a\n"}, {Hunk: true, Left: "a"}}, doc.Part{Text: "spare"})
	mark.Print(d, 7)
	if !kept() {
		t.Error(d)
	}
}
