package merge_test

import (
	"math/rand"
	"slices"
	"strings"
	"testing"
	"time"

	"tripartite/api"
	"tripartite/build"
	"tripartite/chunk"
	"tripartite/doc"
	"tripartite/lcs"
	"tripartite/lines"
	"tripartite/mark"
	"tripartite/merge"
	"tripartite/parse"
	"tripartite/resolve"
	"tripartite/sample"
)

var named = doc.Labels{LeftLabel: "l", BaseLabel: "b", RightLabel: "r"}

func styled(style, favour int) merge.Options {
	return merge.Options{Labels: named, Style: style, Width: 7, Favour: favour}
}

// texts are all short ones, the last line of which may lack its end.
func texts(n int, kinds ...string) []string {
	var all []string
	for _, l := range sample.Lists(n, kinds...) {
		s := lines.Join(l...)
		all = append(all, s)
		if s != "" {
			all = append(all, strings.TrimSuffix(s, "\n"))
		}
	}
	return all
}

// threes calls do with many threes of texts: all of some short ones, and
// longer ones of which two are changed from the first.
func threes(do func(base, left, right string)) {
	short := texts(2, "a\n", "\n", "=======\n")
	short = append(short, "a\nb\na", "b\na\nb\n", "<<<<<<<\n=======!\n>>>>>>> r\n", "<<<<<<<<\n")
	for _, base := range short {
		for _, left := range short {
			for _, right := range short {
				do(base, left, right)
			}
		}
	}
	chance := rand.New(rand.NewSource(3))
	for range 800 {
		base := someLines(chance, 30)
		do(lines.Join(base...), changed(chance, base), changed(chance, base))
	}
}

func someLines(chance *rand.Rand, n int) []string {
	kinds := []string{"a\n", "b\n", "c\n", "d\n", "e\n", "\n", "<<<<<<<\n", "=======\n", "||||||| x\n", ">>>>>>>>\n"}
	var l []string
	for range chance.Intn(n) {
		l = append(l, kinds[chance.Intn(len(kinds))])
	}
	return l
}

func changed(chance *rand.Rand, base []string) string {
	var l []string
	for _, line := range base {
		switch chance.Intn(8) {
		case 0:
			l = append(l, someLines(chance, 4)...)
		case 1:
			l = append(l, line, line)
		default:
			l = append(l, line)
		}
	}
	s := lines.Join(l...)
	if chance.Intn(3) == 0 {
		s = strings.TrimSuffix(s, "\n")
	}
	return s
}

func texted(t *testing.T, base, left, right string, o merge.Options) merge.Result {
	t.Helper()
	r, e := merge.Texts(base, left, right, o)
	if e != api.OK {
		t.Fatalf("%q %q %q: %v", base, left, right, e)
	}
	return r
}

// P12.1: the example of the document, in all styles.
func TestTexts(t *testing.T) {
	for i, c := range []struct {
		base, left, right string
		style             int
		want              string
		n                 int
	}{
		{"a\nb\n", "a\nx\n", "a\ny\n", api.Merge, "a\n<<<<<<< l\nx\n=======\ny\n>>>>>>> r\n", 1},
		{"a\nb\n", "a\nx\n", "a\ny", api.Diff3, "a\n<<<<<<< l\nx\n||||||| b\nb\n=======\ny\n>>>>>>>! r\n", 1},
		{"a\nb\n", "a\nx\ny\n", "a\nx\nz\n", api.ZDiff3, "a\nx\n<<<<<<< l\ny\n||||||| b\nb\n=======\nz\n>>>>>>> r\n", 1},
		{"a\n=======\nb\n", "a\n=======\nx\n", "a\n=======\ny\n", api.Merge, "a\n=======\n<<<<<<<< l\nx\n========\ny\n>>>>>>>> r\n", 1},
		{"a\nb\nc\n", "x\nb\nc\n", "a\nb\ny\n", api.Merge, "x\nb\ny\n", 0},
		{"", "", "", api.Merge, "", 0},
		{"", "a", "b", api.Merge, "<<<<<<< l\na\n=======!\nb\n>>>>>>>! r\n", 1},
	} {
		r := texted(t, c.base, c.left, c.right, styled(c.style, api.None))
		if r.Text != c.want || r.Count != c.n || r.Clean() != (c.n == 0) {
			t.Errorf("%d: %q %d", i, r.Text, r.Count)
		}
	}
}

// P12.1: the options, mostly; a Result has the calls of its Doc.
func TestDefault(t *testing.T) {
	o := merge.Default()
	if o != (merge.Options{Width: 7}) {
		t.Error(o)
	}
	r := texted(t, "", "a", "b", o)
	if r.Text != "<<<<<<<\na\n=======!\nb\n>>>>>>>!\n" || !r.Right() || r.Conflicts() != 1 || !r.Fits(7) {
		t.Error(r)
	}
}

// P12.1: what can't be, and which error is the first.
func TestTextsOther(t *testing.T) {
	wrong := doc.Labels{BaseLabel: "\n"}
	for i, c := range []struct {
		o merge.Options
		e api.Errno
	}{
		{merge.Options{Labels: wrong, Style: 9, Favour: 9}, api.ErrLabel},
		{merge.Options{Style: 9, Favour: 9}, api.ErrWidth},
		{merge.Options{Width: 6}, api.ErrWidth},
		{merge.Options{Width: 65}, api.ErrWidth},
		{merge.Options{Width: -1 << 63}, api.ErrWidth},
		{merge.Options{Width: 7, Style: 3}, api.ErrStyle},
		{merge.Options{Width: 7, Style: -1}, api.ErrStyle},
		{merge.Options{Width: 64, Favour: api.Base}, api.ErrStyle},
		{merge.Options{Width: 64, Favour: 4}, api.ErrStyle},
		{merge.Options{Width: 64, Favour: api.Right, Style: api.ZDiff3}, api.OK},
		{merge.Options{Width: 7, Favour: api.Left, Style: api.Diff3}, api.OK},
	} {
		r, e := merge.Texts("a\n", "b\n", "c\n", c.o)
		if e != c.e || e != api.OK && (r.Doc != nil || r.LeftPairs != nil || r.RightPairs != nil || r.Chunks != nil || r.Text != "" || r.Width != 0 || r.Count != 0) {
			t.Error(i, r, e)
		}
	}
}

// P12.1: three texts may have MaxBytes together, and not one more.
func TestSize(t *testing.T) {
	a := strings.Repeat("a", api.MaxBytes-2)
	if _, e := merge.Texts(a, "bb", "c", merge.Options{}); e != api.ErrSize {
		t.Error(e)
	}
	if _, e := merge.Texts(a, "b", "c", merge.Options{}); e != api.ErrWidth {
		t.Error(e)
	}
}

// P2, P3, P12.1: the matchings are longest ones, the chunks are theirs and
// cover each text, the Doc is theirs, the text is the Doc's.
func TestLayers(t *testing.T) {
	threes(func(base, left, right string) {
		f := build.Files{Base: lines.Split(base), Left: lines.Split(left), Right: lines.Split(right)}
		for style := api.Merge; style <= api.ZDiff3; style++ {
			o := styled(style, api.None)
			o.Width = 7 + style
			r := texted(t, base, left, right, o)
			l := lines.Number(f.Base, f.Left)
			m := lines.Number(f.Base, f.Right)
			chunks, e := chunk.Of(len(f.Base), len(f.Left), len(f.Right), r.LeftPairs, r.RightPairs)
			if e != api.OK || !slices.Equal(r.Chunks, chunks) ||
				!slices.Equal(r.LeftPairs, lcs.Match(l[0], l[1])) || !slices.Equal(r.RightPairs, lcs.Match(m[0], m[1])) {
				t.Fatalf("%q %q %q: %v", base, left, right, r)
			}
			d, _ := build.Doc(f, r.Chunks, style, named, api.None)
			s, _ := mark.Print(d, r.Width)
			if !doc.Same(r.Doc, d) || r.Text != s || r.Width != doc.Width(o.Width, base, left, right) || r.Conflicts() != r.Count {
				t.Fatalf("%q %q %q: %v", base, left, right, r)
			}
			checkSpans(t, f, r)
		}
	})
}

// checkSpans looks whether the Spans of each text are that text, and whether
// just those Chunks are conflicts that have three unlike sides.
func checkSpans(t *testing.T, f build.Files, r merge.Result) {
	t.Helper()
	var base, left, right []string
	n := 0
	for _, c := range r.Chunks {
		b, l, m := c.Base.Cut(f.Base), c.Left.Cut(f.Left), c.Right.Cut(f.Right)
		base, left, right = append(base, b...), append(left, l...), append(right, m...)
		if !slices.Equal(b, l) && !slices.Equal(b, m) && !slices.Equal(l, m) {
			n++
		}
	}
	if !slices.Equal(base, f.Base) || !slices.Equal(left, f.Left) || !slices.Equal(right, f.Right) || n != r.Count {
		t.Fatal(f, r)
	}
}

// P2: what both sides changed apart from each other is no conflict.
func TestChangedApart(t *testing.T) {
	line := func(i int) string { return strings.Repeat("x", i+1) + "\n" }
	const n = 9
	for i := range n {
		for j := range n {
			if max(i, j)-min(i, j) < 2 {
				continue
			}
			var base, left, right, both string
			for k := range n {
				base += line(k)
				l, r, b := line(k), line(k), line(k)
				if k == i {
					l, b = "left\n", "left\n"
				}
				if k == j {
					r, b = "", ""
				}
				left, right, both = left+l, right+r, both+b
			}
			if r := texted(t, base, left, right, merge.Default()); r.Text != both || !r.Clean() {
				t.Errorf("%d %d: %q", i, j, r.Text)
			}
		}
	}
}

// P3, P12.2: is one side the base, the text is the other one; are both sides the same, it is theirs.
func TestOneSideChanged(t *testing.T) {
	threes(func(base, left, right string) {
		for _, c := range []struct{ base, left, right, want string }{
			{base, base, right, right}, {base, left, base, left}, {base, left, left, left},
		} {
			if r := texted(t, c.base, c.left, c.right, merge.Default()); r.Text != c.want || r.Count != 0 || !r.Clean() {
				t.Fatalf("%q: %q %d", c, r.Text, r.Count)
			}
		}
	})
}

// P3, P12.3: with left and right the other way round the Chunks are Turned.
func TestTurned(t *testing.T) {
	threes(func(base, left, right string) {
		r := texted(t, base, left, right, merge.Default())
		other := texted(t, base, right, left, merge.Default())
		turned := func(a, b chunk.Chunk) bool { return a.Turned() == b }
		if !slices.EqualFunc(r.Chunks, other.Chunks, turned) || r.Count != other.Count || r.Clean() && r.Text != other.Text {
			t.Fatalf("%q %q %q: %v %v", base, left, right, r, other)
		}
	})
}

// P4, P12.4: whatever stands in the texts, the merged one is parsed to just its Doc.
func TestParsed(t *testing.T) {
	threes(func(base, left, right string) {
		for style := api.Merge; style <= api.ZDiff3; style++ {
			r := texted(t, base, left, right, styled(style, api.None))
			if d, e, at := parse.Text(r.Text, r.Width); !doc.Same(d, r.Doc) || e != api.OK || at != 0 {
				t.Fatalf("%q %q %q: %q: %v %v", base, left, right, r.Text, d, e)
			}
		}
	})
}

// P6, P12.5: resolved by one side, it is what it is with that side favoured;
// in style Diff3 by Base, chunk by chunk, Base's lines of conflicts.
func TestResolved(t *testing.T) {
	threes(func(base, left, right string) {
		for style := api.Merge; style <= api.ZDiff3; style++ {
			r := texted(t, base, left, right, styled(style, api.None))
			for _, side := range []int{api.Left, api.Right} {
				s, e := resolve.All(r.Doc, side)
				favoured := texted(t, base, left, right, styled(style, side))
				if e != api.OK || s != favoured.Text || favoured.Conflicts() != 0 || favoured.Count != r.Count {
					t.Fatalf("%q %q %q: %q %v %q", base, left, right, s, e, favoured.Text)
				}
			}
			if style == api.Diff3 {
				s, e := resolve.All(r.Doc, api.Base)
				if want := byBase(base, left, right, r.Chunks); e != api.OK || s != want {
					t.Fatalf("%q %q %q: %q %v", base, left, right, s, e)
				}
			}
		}
	})
}

// byBase answers, chunk by chunk, Base's lines of conflicts, else the side of its Class.
func byBase(base, left, right string, l []chunk.Chunk) string {
	b, x, y := lines.Split(base), lines.Split(left), lines.Split(right)
	var all []string
	for _, c := range l {
		switch c.Class(b, x, y) {
		case chunk.Stable, chunk.Conflict:
			all = append(all, c.Base.Cut(b)...)
		case chunk.RightChanged:
			all = append(all, c.Right.Cut(y)...)
		default:
			all = append(all, c.Left.Cut(x)...)
		}
	}
	return lines.Join(all...)
}

// P12.1: long texts are merged within a moment.
func TestLongTexts(t *testing.T) {
	var base, left, right strings.Builder
	for i := range 6000 {
		line := strings.Repeat("y", i%83) + "\n"
		base.WriteString(line)
		if i%40 != 0 {
			left.WriteString(line)
		}
		right.WriteString(line)
		if i%60 == 20 {
			right.WriteString("new\n")
		}
	}
	before := time.Now()
	r := texted(t, base.String(), left.String(), right.String(), merge.Default())
	if took := time.Since(before); took > 5*time.Second || r.Width != 7 {
		t.Error(took)
	}
}

// P12.6: answers are new memory.
func TestMemory(t *testing.T) {
	one := texted(t, "a\nb\nc\n", "a\nx\nc\n", "a\ny\nc\n", merge.Default())
	two := texted(t, "a\nb\nc\n", "a\nx\nc\n", "a\ny\nc\n", merge.Default())
	want := two.Text
	_ = append(one.LeftPairs, lcs.Pair{}, lcs.Pair{}, lcs.Pair{})
	clear(one.LeftPairs)
	if !slices.Equal(one.RightPairs, two.RightPairs) {
		t.Error("two lists of one answer share memory")
	}
	clear(one.RightPairs)
	clear(one.Chunks)
	clear(one.Doc)
	if s, e := mark.Print(two.Doc, 7); s != want || e != api.OK || !slices.Equal(two.LeftPairs, []lcs.Pair{{A: 0, B: 0}, {A: 2, B: 2}}) || two.Chunks[0] == (chunk.Chunk{}) {
		t.Error(two)
	}
}
