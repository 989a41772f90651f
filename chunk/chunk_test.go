package chunk_test

import (
	"slices"
	"testing"

	"tripartite/api"
	"tripartite/chunk"
	"tripartite/lcs"
	"tripartite/sample"
)

func span(from, to int) chunk.Span { return chunk.Span{From: from, To: to} }

func stable(base, left, right chunk.Span) chunk.Chunk {
	return chunk.Chunk{Stable: true, Base: base, Left: left, Right: right}
}

func other(base, left, right chunk.Span) chunk.Chunk {
	return chunk.Chunk{Base: base, Left: left, Right: right}
}

// matchings are all lists of Pairs of a and b places that rise.
func matchings(a, b int) [][]lcs.Pair {
	all := [][]lcs.Pair{nil}
	for at := 0; at < len(all); at++ {
		l := all[at]
		from := lcs.Pair{A: -1, B: -1}
		if len(l) > 0 {
			from = l[len(l)-1]
		}
		for x := from.A + 1; x < a; x++ {
			for y := from.B + 1; y < b; y++ {
				all = append(all, append(slices.Clone(l), lcs.Pair{A: x, B: y}))
			}
		}
	}
	return all
}

// asWritten answers the Chunks as the document's words have it, place by place.
func asWritten(base, left, right int, l, r []lcs.Pair) []chunk.Chunk {
	inLeft, inRight := map[int]int{}, map[int]int{}
	for _, p := range l {
		inLeft[p.A] = p.B
	}
	for _, p := range r {
		inRight[p.A] = p.B
	}
	matched := func(b int) (int, int, bool) {
		x, okX := inLeft[b]
		y, okY := inRight[b]
		return x, y, okX && okY
	}
	var chunks []chunk.Chunk
	b, x, y := 0, 0, 0
	for b < base || x < left || y < right {
		n := 0
		for {
			atX, atY, ok := matched(b + n)
			if !ok || atX != x+n || atY != y+n {
				break
			}
			n++
		}
		toB, toX, toY := base, left, right
		if n > 0 {
			toB, toX, toY = b+n, x+n, y+n
		}
		for p := b; n == 0 && p < base; p++ {
			if atX, atY, ok := matched(p); ok && atX >= x && atY >= y {
				toB, toX, toY = p, atX, atY
				break
			}
		}
		chunks = append(chunks, chunk.Chunk{Stable: n > 0, Base: span(b, toB), Left: span(x, toX), Right: span(y, toY)})
		b, x, y = toB, toX, toY
	}
	return chunks
}

// P6.1: the example of the document, and what stands at the edges.
func TestOf(t *testing.T) {
	one := []lcs.Pair{{A: 1, B: 1}}
	for i, c := range []struct {
		base, left, right int
		l, r              []lcs.Pair
		want              []chunk.Chunk
	}{
		{0, 0, 0, nil, nil, nil},
		{2, 2, 2, one, one, []chunk.Chunk{other(span(0, 1), span(0, 1), span(0, 1)), stable(span(1, 2), span(1, 2), span(1, 2))}},
		{2, 2, 2, one, nil, []chunk.Chunk{other(span(0, 2), span(0, 2), span(0, 2))}},
		{0, 1, 0, nil, nil, []chunk.Chunk{other(span(0, 0), span(0, 1), span(0, 0))}},
		{1, 1, 2, []lcs.Pair{{A: 0, B: 0}}, []lcs.Pair{{A: 0, B: 1}}, []chunk.Chunk{
			other(span(0, 0), span(0, 0), span(0, 1)), stable(span(0, 1), span(0, 1), span(1, 2)),
		}},
		{3, 3, 2, []lcs.Pair{{A: 0, B: 0}, {A: 1, B: 1}, {A: 2, B: 2}}, []lcs.Pair{{A: 0, B: 0}, {A: 2, B: 1}}, []chunk.Chunk{
			stable(span(0, 1), span(0, 1), span(0, 1)), other(span(1, 2), span(1, 2), span(1, 1)), stable(span(2, 3), span(2, 3), span(1, 2)),
		}},
		{2, 3, 2, []lcs.Pair{{A: 0, B: 0}, {A: 1, B: 2}}, []lcs.Pair{{A: 0, B: 0}, {A: 1, B: 1}}, []chunk.Chunk{
			stable(span(0, 1), span(0, 1), span(0, 1)), other(span(1, 1), span(1, 2), span(1, 1)), stable(span(1, 2), span(2, 3), span(1, 2)),
		}},
	} {
		if got, e := chunk.Of(c.base, c.left, c.right, c.l, c.r); e != api.OK || !slices.Equal(got, c.want) {
			t.Error(i, got, e)
		}
	}
}

// P6.1 to P6.3: by all matchings of short lists.
func TestOfAll(t *testing.T) {
	for _, n := range sample.Lists(3, 0, 1, 2, 3) {
		if len(n) != 3 {
			continue
		}
		for _, l := range matchings(n[0], n[1]) {
			for _, r := range matchings(n[0], n[2]) {
				check(t, n[0], n[1], n[2], l, r)
			}
		}
	}
}

func check(t *testing.T, base, left, right int, l, r []lcs.Pair) {
	t.Helper()
	got, e := chunk.Of(base, left, right, l, r)
	if e != api.OK || !slices.Equal(got, asWritten(base, left, right, l, r)) {
		t.Fatal(base, left, right, l, r, got, e)
	}
	at := chunk.Chunk{}
	for i, c := range got {
		follows := c.Base.From == at.Base.To && c.Left.From == at.Left.To && c.Right.From == at.Right.To
		empty := c.Base.Len()+c.Left.Len()+c.Right.Len() == 0
		if !follows || empty || i > 0 && c.Stable == at.Stable {
			t.Fatal(base, left, right, l, r, got)
		}
		at = c
	}
	if at.Base.To != base || at.Left.To != left || at.Right.To != right {
		t.Fatal(base, left, right, l, r, got)
	}
	turned, e := chunk.Of(base, right, left, r, l)
	if e != api.OK || !slices.EqualFunc(got, turned, func(a, b chunk.Chunk) bool { return a.Turned() == b }) {
		t.Fatal(base, left, right, l, r, turned)
	}
}

// P6.1: lists of places may be as long as numbers go.
func TestOfLongLists(t *testing.T) {
	const most = 1<<63 - 1
	p := []lcs.Pair{{A: most - 1, B: most - 1}}
	got, e := chunk.Of(most, most, most, p, p)
	want := []chunk.Chunk{
		other(span(0, most-1), span(0, most-1), span(0, most-1)),
		stable(span(most-1, most), span(most-1, most), span(most-1, most)),
	}
	if e != api.OK || !slices.Equal(got, want) {
		t.Error(got, e)
	}
}

// P6.1: what are no Pairs of these lists.
func TestOfNoMatching(t *testing.T) {
	good := []lcs.Pair{{A: 0, B: 0}, {A: 1, B: 1}}
	for i, bad := range [][]lcs.Pair{
		{{A: -1, B: 0}}, {{A: 0, B: -1}}, {{A: 2, B: 0}}, {{A: 0, B: 2}},
		{{A: 0, B: 0}, {A: 0, B: 1}}, {{A: 0, B: 0}, {A: 1, B: 0}}, {{A: 1, B: 0}, {A: 0, B: 1}}, {{A: 0, B: 1}, {A: 1, B: 0}},
		{{A: 0, B: 0}, {A: 0, B: 0}},
	} {
		if got, e := chunk.Of(2, 2, 2, bad, good); e != api.ErrMatch || got != nil {
			t.Error(i, got, e)
		}
		if got, e := chunk.Of(2, 2, 2, good, bad); e != api.ErrMatch || got != nil {
			t.Error(i, got, e)
		}
	}
	for _, n := range [][3]int{{-1, 0, 0}, {0, -1, 0}, {0, 0, -1}, {-1 << 63, 1, 1}} {
		if got, e := chunk.Of(n[0], n[1], n[2], nil, nil); e != api.ErrMatch || got != nil {
			t.Error(n, got, e)
		}
	}
}

// P6.1: the class of a piece of three texts.
func TestClass(t *testing.T) {
	text := []string{"a\n", "b\n", "a\n", "a"}
	for i, c := range []struct {
		c    chunk.Chunk
		want int
	}{
		{stable(span(0, 1), span(0, 1), span(0, 1)), chunk.Stable},
		{stable(span(0, 1), span(1, 2), span(0, 0)), chunk.Stable},
		{other(span(0, 1), span(2, 3), span(1, 2)), chunk.RightChanged},
		{other(span(0, 1), span(1, 2), span(2, 3)), chunk.LeftChanged},
		{other(span(0, 1), span(1, 2), span(1, 2)), chunk.BothSame},
		{other(span(0, 1), span(1, 2), span(1, 1)), chunk.Conflict},
		{other(span(0, 1), span(2, 3), span(0, 1)), chunk.RightChanged},
		{other(span(0, 1), span(3, 4), span(0, 1)), chunk.LeftChanged},
		{other(span(0, 2), span(2, 3), span(3, 4)), chunk.Conflict},
		{other(span(0, 0), span(1, 1), span(1, 2)), chunk.RightChanged},
		{other(span(0, 0), span(0, 2), span(0, 2)), chunk.BothSame},
	} {
		if got := c.c.Class(text, text, text); got != c.want {
			t.Error(i, got)
		}
	}
}

// P6.1: the classes' numbers.
func TestClassNumbers(t *testing.T) {
	classes := []int{chunk.Stable, chunk.LeftChanged, chunk.RightChanged, chunk.BothSame, chunk.Conflict}
	if !slices.Equal(classes, []int{0, 1, 2, 3, 4}) {
		t.Error(classes)
	}
}

// P6.1: each text is cut by its own Span.
func TestClassByText(t *testing.T) {
	c := other(span(0, 1), span(0, 1), span(0, 1))
	x, y, z := []string{"x"}, []string{"y"}, []string{"z"}
	if c.Class(x, y, z) != chunk.Conflict || c.Class(x, x, z) != chunk.RightChanged || c.Class(x, y, x) != chunk.LeftChanged || c.Class(x, y, y) != chunk.BothSame {
		t.Error("class")
	}
}

// P6.1: Spans, also such as no list has.
func TestSpan(t *testing.T) {
	l := []string{"a", "b", "c"}
	for i, c := range []struct {
		s    chunk.Span
		n    int
		want []string
	}{
		{span(0, 0), 0, nil},
		{span(0, 3), 3, l},
		{span(1, 2), 1, []string{"b"}},
		{span(3, 3), 0, nil},
		{span(2, 1), 0, nil},
		{span(-1, 2), 3, nil},
		{span(1, 4), 3, nil},
		{span(4, 4), 0, nil},
		{span(-2, -1), 1, nil},
		{span(1<<63-1, -1<<63), 0, nil},
		{span(0, 1<<63-1), 1<<63 - 1, nil},
	} {
		if got := c.s.Cut(l); c.s.Len() != c.n || !slices.Equal(got, c.want) {
			t.Error(i, c.s.Len(), got)
		}
	}
}

// P6.1: the same, left and right the other way round.
func TestTurned(t *testing.T) {
	c := stable(span(1, 2), span(3, 4), span(5, 6))
	if c.Turned() != stable(span(1, 2), span(5, 6), span(3, 4)) || c.Turned().Turned() != c {
		t.Error(c.Turned())
	}
}

// P1: Spans beyond the texts come to an end, too.
func TestClassBeyond(t *testing.T) {
	for _, s := range []chunk.Span{span(-5, 2), span(0, 9), span(3, 1), span(-1<<63, 1<<63-1)} {
		other(s, s, s).Class(nil, []string{"a"}, nil)
	}
}

// P6.4: what is handed in stays as it is, its spare room too; answers are new memory.
func TestMemory(t *testing.T) {
	l, keptL := sample.Guard([]lcs.Pair{{A: 0, B: 0}, {A: 2, B: 1}}, lcs.Pair{A: 9, B: 9})
	r, keptR := sample.Guard([]lcs.Pair{{A: 0, B: 1}, {A: 1, B: 2}, {A: 2, B: 3}}, lcs.Pair{A: 9, B: 9})
	one, _ := chunk.Of(3, 3, 4, l, r)
	two, _ := chunk.Of(3, 3, 4, l, r)
	was := slices.Clone(two)
	clear(one)
	if !slices.Equal(two, was) {
		t.Error("two answers share memory")
	}
	text, keptText := sample.Guard([]string{"a", "b", "c"}, "spare")
	other(span(0, 1), span(0, 2), span(1, 3)).Class(text, text, text)
	cut := span(0, 2).Cut(text)
	cut[0] = "new"
	_ = append(cut, "new")
	_ = append(span(1, 1).Cut(text), "new")
	if !keptL() || !keptR() || !keptText() {
		t.Error(l, r, text)
	}
}
