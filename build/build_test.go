package build_test

import (
	"slices"
	"strings"
	"testing"

	"tripartite/api"
	"tripartite/build"
	"tripartite/chunk"
	"tripartite/doc"
	"tripartite/lcs"
	"tripartite/lines"
	"tripartite/sample"
)

var named = doc.Labels{LeftLabel: "l", BaseLabel: "b", RightLabel: "r"}

func files(base, left, right string) build.Files {
	return build.Files{Base: lines.Split(base), Left: lines.Split(left), Right: lines.Split(right)}
}

// chunks are those of the files' longest matchings, without each Pair whose
// place in the base is a multiple of sparse, if that is above 0.
func chunks(f build.Files, sparse int) []chunk.Chunk {
	match := func(side []string) []lcs.Pair {
		n := lines.Number(f.Base, side)
		return slices.DeleteFunc(lcs.Match(n[0], n[1]), func(p lcs.Pair) bool { return sparse > 0 && p.A%sparse == 0 })
	}
	l, _ := chunk.Of(len(f.Base), len(f.Left), len(f.Right), match(f.Left), match(f.Right))
	return l
}

// texts are all short ones, the last line of which may lack its end.
func texts() []string {
	var all []string
	for _, l := range sample.Lists(3, "a\n", "b\n") {
		s := lines.Join(l...)
		all = append(all, s)
		if s != "" {
			all = append(all, strings.TrimSuffix(s, "\n"))
		}
	}
	return all
}

// P10.1: Docs of some texts, in all styles.
func TestDoc(t *testing.T) {
	for i, c := range []struct {
		f     build.Files
		style int
		want  doc.Doc
	}{
		{files("", "", ""), api.Merge, nil},
		{files("a\nb\n", "a\nb\n", "a\nc"), api.Merge, doc.Doc{{Text: "a\nc"}}},
		{files("a\nb\nc\n", "x\nb\nc\n", "a\nb\ny\n"), api.Diff3, doc.Doc{{Text: "x\nb\ny\n"}}},
		{files("a\n", "b\n", "b\n"), api.Merge, doc.Doc{{Text: "b\n"}}},
		{files("a\nb\n", "a\nx\n", "a\ny"), api.Merge, doc.Doc{
			{Text: "a\n"}, {Hunk: true, Labels: doc.Labels{LeftLabel: "l", RightLabel: "r"}, Left: "x\n", Right: "y"},
		}},
		{files("a\nb", "a\nx\n", "a\ny\n"), api.Diff3, doc.Doc{
			{Text: "a\n"}, {Hunk: true, Labels: named, Left: "x\n", Right: "y\n", HasBase: true, Base: "b"},
		}},
		{files("a\n", "x\ny\n", "x\nz\n"), api.Diff3, doc.Doc{
			{Hunk: true, Labels: named, Left: "x\ny\n", Right: "x\nz\n", HasBase: true, Base: "a\n"},
		}},
		{files("a\n", "x\ny\n", "x\nz\n"), api.ZDiff3, doc.Doc{
			{Text: "x\n"}, {Hunk: true, Labels: named, Left: "y\n", Right: "z\n", HasBase: true, Base: "a\n"},
		}},
		{files("a\n", "x\ny\nv\nw", "x\nz\nv\nw"), api.ZDiff3, doc.Doc{
			{Text: "x\n"}, {Hunk: true, Labels: named, Left: "y\n", Right: "z\n", HasBase: true, Base: "a\n"}, {Text: "v\nw"},
		}},
		{files("a\n", "x\nx\n", "x\n"), api.ZDiff3, doc.Doc{
			{Text: "x\n"}, {Hunk: true, Labels: named, Left: "x\n", HasBase: true, Base: "a\n"},
		}},
		{files("k\na\nm\n", "k\nx\nm\n", "k\nx\ny\nm\n"), api.ZDiff3, doc.Doc{
			{Text: "k\nx\n"}, {Hunk: true, Labels: named, Right: "y\n", HasBase: true, Base: "a\n"}, {Text: "m\n"},
		}},
	} {
		if d, e := build.Doc(c.f, chunks(c.f, 0), c.style, named, api.None); !doc.Same(d, c.want) || e != api.OK {
			t.Error(i, d, e)
		}
	}
}

// P10.1: styles, sides and labels that can't be, and which error is the first.
func TestDocOther(t *testing.T) {
	wrong := doc.Labels{RightLabel: "\n"}
	for i, c := range []struct {
		style, favour int
		labels        doc.Labels
		e             api.Errno
	}{
		{-1, 0, named, api.ErrStyle},
		{3, 0, named, api.ErrStyle},
		{0, -1, named, api.ErrStyle},
		{0, api.Base, named, api.ErrStyle},
		{0, 4, named, api.ErrStyle},
		{3, 0, wrong, api.ErrStyle},
		{0, api.Base, wrong, api.ErrStyle},
		{0, 0, wrong, api.ErrLabel},
		{2, 3, wrong, api.ErrLabel},
		{0, 0, doc.Labels{BaseLabel: "\n"}, api.ErrLabel},
		{2, 3, named, api.OK},
		{1, 1, named, api.OK},
	} {
		f := files("", "a", "")
		d, e := build.Doc(f, chunks(f, 0), c.style, c.labels, c.favour)
		if e != c.e || e != api.OK && d != nil {
			t.Error(i, d, e)
		}
	}
}

// asWritten answers the Parts of a Chunk as the document's words have them.
func asWritten(f build.Files, c chunk.Chunk, style, favour int) []doc.Part {
	base, left, right := lines.Join(c.Base.Cut(f.Base)...), lines.Join(c.Left.Cut(f.Left)...), lines.Join(c.Right.Cut(f.Right)...)
	switch {
	case c.Stable:
		return []doc.Part{{Text: base}}
	case base == left:
		return []doc.Part{{Text: right}}
	case base == right || left == right || favour == api.Left:
		return []doc.Part{{Text: left}}
	case favour == api.Right:
		return []doc.Part{{Text: right}}
	case style == api.Merge:
		return []doc.Part{{Hunk: true, Labels: doc.Labels{LeftLabel: "l", RightLabel: "r"}, Left: left, Right: right}}
	case style == api.Diff3:
		return []doc.Part{{Hunk: true, Labels: named, Left: left, Right: right, HasBase: true, Base: base}}
	}
	l, r := c.Left.Cut(f.Left), c.Right.Cut(f.Right)
	var ahead, behind []string
	for len(l) > 0 && len(r) > 0 && l[0] == r[0] {
		ahead, l, r = append(ahead, l[0]), l[1:], r[1:]
	}
	for len(l) > 0 && len(r) > 0 && l[len(l)-1] == r[len(r)-1] {
		behind, l, r = append([]string{l[len(l)-1]}, behind...), l[:len(l)-1], r[:len(r)-1]
	}
	p := doc.Part{Hunk: true, Labels: named, Left: lines.Join(l...), Right: lines.Join(r...), HasBase: true, Base: base}
	return []doc.Part{{Text: lines.Join(ahead...)}, p, {Text: lines.Join(behind...)}}
}

// P10.1 to P10.3: of all short texts, by longest matchings and by shorter ones.
func TestDocOfAll(t *testing.T) {
	all := texts()
	for _, base := range all {
		for _, left := range all {
			for _, right := range all {
				f := files(base, left, right)
				for sparse := range 3 {
					check(t, f, chunks(f, sparse))
				}
			}
		}
	}
}

func check(t *testing.T, f build.Files, l []chunk.Chunk) {
	t.Helper()
	for style := api.Merge; style <= api.ZDiff3; style++ {
		for _, favour := range []int{api.None, api.Left, api.Right} {
			var parts []doc.Part
			for _, c := range l {
				parts = append(parts, asWritten(f, c, style, favour)...)
			}
			d, e := build.Doc(f, l, style, named, favour)
			if e != api.OK || !d.Right() || !doc.Same(d, doc.Of(parts...)) {
				t.Fatalf("%q %v %d %d: %v %v", f, l, style, favour, d, e)
			}
			n := build.Count(f, l)
			if favour != api.None {
				n = 0
			}
			if d.Conflicts() != n {
				t.Fatalf("%q %v: %d conflicts", f, l, d.Conflicts())
			}
		}
	}
}

// P10.1: what both sides of a conflict begin with, and end with.
func TestHoist(t *testing.T) {
	if n, m := build.Hoist([]string{"a", "b", "c"}, []string{"a", "c"}); n != 1 || m != 1 {
		t.Error(n, m)
	}
	if n, m := build.Hoist([]string{"a", "a"}, []string{"a"}); n != 1 || m != 0 {
		t.Error(n, m)
	}
	if n, m := build.Hoist(nil, []string{"a"}); n != 0 || m != 0 {
		t.Error(n, m)
	}
}

// P10.1: how many Chunks are conflicts.
func TestCount(t *testing.T) {
	f := files("a\nk\nb\nk\nc\nk\nd\n", "x\nk\ny\nk\nz\nk\nd\n", "1\nk\nb\nk\n3\nk\n4\n")
	if n := build.Count(f, chunks(f, 0)); n != 2 {
		t.Error(n)
	}
	if n := build.Count(f, nil); n != 0 {
		t.Error(n)
	}
}

// P1: other chunks, and other lists, come to an end, too.
func TestOtherChunks(t *testing.T) {
	f := build.Files{Base: []string{"", "a\nb"}, Left: []string{"a", "b"}}
	spans := []chunk.Span{{From: -1, To: 2}, {From: 2, To: 1}, {From: 0, To: 9}, {From: 0, To: 2}, {From: -1 << 63, To: 1<<63 - 1}}
	for _, s := range sample.Lists(3, spans...) {
		if len(s) < 3 {
			continue
		}
		for _, stable := range []bool{false, true} {
			l := []chunk.Chunk{{Stable: stable, Base: s[0], Left: s[1], Right: s[2]}, {Stable: stable, Base: s[2], Left: s[0], Right: s[1]}}
			build.Count(f, l)
			for style := range 3 {
				build.Doc(f, l, style, named, api.None)
			}
		}
	}
}

// P10.4: what is handed in stays as it is, its spare room too; answers are new memory.
func TestMemory(t *testing.T) {
	f := files("a\nb\nc\n", "a\nx\ny\nc\n", "a\nx\nz\nc\n")
	l, keptL := sample.Guard(chunks(f, 0), chunk.Chunk{})
	var keptLists []func() bool
	for _, list := range []*[]string{&f.Base, &f.Left, &f.Right} {
		guarded, kept := sample.Guard(*list, "spare")
		*list, keptLists = guarded, append(keptLists, kept)
	}
	one, _ := build.Doc(f, l, api.ZDiff3, named, api.None)
	two, _ := build.Doc(f, l, api.ZDiff3, named, api.None)
	build.Count(f, l)
	build.Hoist(f.Left, f.Right)
	clear(one)
	if !two.Right() || len(two) != 3 {
		t.Error(two)
	}
	for i, kept := range keptLists {
		if !kept() {
			t.Error(i, f)
		}
	}
	if !keptL() {
		t.Error(l)
	}
}
