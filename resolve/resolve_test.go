package resolve_test

import (
	"slices"
	"testing"

	"tripartite/api"
	"tripartite/doc"
	"tripartite/resolve"
	"tripartite/sample"
)

func bare(left, right string) doc.Part { return doc.Part{Hunk: true, Left: left, Right: right} }

func based(left, base, right string) doc.Part {
	return doc.Part{Hunk: true, HasBase: true, Left: left, Base: base, Right: right}
}

var (
	mixed = doc.Doc{{Text: "k\n"}, based("1\n", "2\n", "3\n"), {Text: "l\n"}, bare("4", "5\n"), based("6", "", "8")}
	wrong = doc.Doc{{Text: ""}}
)

// P11.1: one side of all conflicts.
func TestAll(t *testing.T) {
	for i, c := range []struct {
		d    doc.Doc
		side int
		want string
		e    api.Errno
	}{
		{doc.Doc{bare("a", "b")}, api.Right, "b", api.OK},
		{mixed, api.Left, "k\n1\nl\n46", api.OK},
		{mixed, api.Right, "k\n3\nl\n5\n8", api.OK},
		{mixed, api.Base, "", api.ErrArg},
		{mixed[:3], api.Base, "k\n2\nl\n", api.OK},
		{doc.Doc{based("a", "", "b")}, api.Base, "", api.OK},
		{doc.Doc{{Text: "a"}}, api.Base, "a", api.OK},
		{nil, api.Left, "", api.OK},
		{mixed, api.None, "", api.ErrStyle},
		{mixed, 4, "", api.ErrStyle},
		{nil, -1, "", api.ErrStyle},
		{wrong, api.Left, "", api.ErrForm},
		{wrong, 9, "", api.ErrForm},
		{doc.Doc{bare("a", "b"), {Hunk: true, Base: "x"}}, api.Base, "", api.ErrForm},
	} {
		if s, e := resolve.All(c.d, c.side); s != c.want || e != c.e {
			t.Errorf("%d: %q %v", i, s, e)
		}
	}
}

// P11.1: a side for each conflict.
func TestEach(t *testing.T) {
	for i, c := range []struct {
		d     doc.Doc
		sides []int
		want  string
		e     api.Errno
	}{
		{mixed, []int{api.Base, api.Right, api.Left}, "k\n2\nl\n5\n6", api.OK},
		{mixed, []int{api.Left, api.Left, api.Base}, "k\n1\nl\n4", api.OK},
		{doc.Doc{{Text: "a"}}, nil, "a", api.OK},
		{nil, nil, "", api.OK},
		{nil, []int{api.Left}, "", api.ErrArg},
		{mixed, []int{api.Left, api.Left}, "", api.ErrArg},
		{mixed, []int{9, 9, 9, 9}, "", api.ErrArg},
		{mixed, []int{api.Left, api.Base, 9}, "", api.ErrArg},
		{mixed, []int{api.Left, 9, 9}, "", api.ErrStyle},
		{mixed, []int{api.None, api.Base, api.Left}, "", api.ErrStyle},
		{mixed, []int{api.Left, api.Left, -1}, "", api.ErrStyle},
		{wrong, []int{9}, "", api.ErrForm},
	} {
		if s, e := resolve.Each(c.d, c.sides...); s != c.want || e != c.e {
			t.Errorf("%d: %q %v", i, s, e)
		}
	}
}

// P11.1: one conflict resolved, the others left.
func TestOne(t *testing.T) {
	x := bare("x\n", "y")
	for i, c := range []struct {
		d       doc.Doc
		n, side int
		want    doc.Doc
		e       api.Errno
	}{
		{doc.Doc{x}, 0, api.Left, doc.Doc{{Text: "x\n"}}, api.OK},
		{doc.Doc{x}, 0, api.Right, doc.Doc{{Text: "y"}}, api.OK},
		{doc.Doc{x, x}, 0, api.Left, doc.Doc{{Text: "x\n"}, x}, api.OK},
		{doc.Doc{x, x}, 1, api.Right, doc.Doc{x, {Text: "y"}}, api.OK},
		{doc.Doc{x, x}, 0, api.Right, nil, api.ErrForm},
		{doc.Doc{x, {Text: "a"}}, 0, api.Right, nil, api.ErrForm},
		{doc.Doc{{Text: "a\n"}, x, {Text: "b\n"}}, 0, api.Left, doc.Doc{{Text: "a\nx\nb\n"}}, api.OK},
		{doc.Doc{bare("", "y"), x}, 0, api.Left, doc.Doc{x}, api.OK},
		{doc.Doc{bare("", "y")}, 0, api.Left, nil, api.OK},
		{doc.Doc{based("a\n", "b\n", "c\n"), x}, 0, api.Base, doc.Doc{{Text: "b\n"}, x}, api.OK},
		{doc.Doc{based("a\n", "b", "c\n"), x}, 0, api.Base, nil, api.ErrForm},
		{doc.Doc{x}, 0, api.Base, nil, api.ErrArg},
		{doc.Doc{x}, 0, api.None, nil, api.ErrStyle},
		{doc.Doc{x}, 0, 4, nil, api.ErrStyle},
		{doc.Doc{x}, 1, 4, nil, api.ErrArg},
		{doc.Doc{x}, -1, api.Left, nil, api.ErrArg},
		{doc.Doc{x}, -1 << 63, api.Left, nil, api.ErrArg},
		{doc.Doc{x}, 1<<63 - 1, api.Left, nil, api.ErrArg},
		{nil, 0, api.Left, nil, api.ErrArg},
		{wrong, 5, 9, nil, api.ErrForm},
	} {
		if d, e := resolve.One(c.d, c.n, c.side); !doc.Same(d, c.want) || e != c.e || e != api.OK && d != nil {
			t.Error(i, d, e)
		}
	}
}

// P11.2: one conflict behind the other, resolved, comes to the same as Each;
// what One answers on the way is Right.
func TestOneByOne(t *testing.T) {
	for _, parts := range sample.Lists(4, doc.Part{Text: "a\n"}, bare("b\n", ""), bare("c", "d\n"), based("e\n", "f\n", "g")) {
		d := doc.Of(parts...)
		for _, sides := range sample.Lists(d.Conflicts(), api.Left, api.Base, api.Right) {
			if len(sides) == d.Conflicts() {
				checkOneByOne(t, d, sides)
			}
		}
	}
}

func checkOneByOne(t *testing.T, d doc.Doc, sides []int) {
	t.Helper()
	want, wrong := resolve.Each(d, sides...)
	left, goesOn := d, false
	for _, side := range sides {
		next, e := resolve.One(left, 0, side)
		if e == api.ErrForm {
			goesOn = true
			break
		}
		if e != api.OK {
			if e != wrong {
				t.Fatal(d, sides, e, wrong)
			}
			return
		}
		if !next.Right() || next.Conflicts() != left.Conflicts()-1 {
			t.Fatal(d, sides, next)
		}
		left = next
	}
	if goesOn {
		return
	}
	text := ""
	for _, p := range left {
		text += p.Text
	}
	if wrong != api.OK || text != want || left.Conflicts() != 0 {
		t.Fatal(d, sides, left, wrong)
	}
}

// P11.1: All comes to the same as Each with one side for all.
func TestAllIsEach(t *testing.T) {
	for _, parts := range sample.Lists(4, doc.Part{Text: "a\n"}, bare("b\n", "x"), based("e", "", "g\n")) {
		d := doc.Of(parts...)
		for side := api.Left; side <= api.Right; side++ {
			s, e := resolve.All(d, side)
			each, f := resolve.Each(d, slices.Repeat([]int{side}, d.Conflicts())...)
			if s != each || e != f {
				t.Fatal(d, side, s, each, e, f)
			}
		}
	}
}

// P11.3: what is handed in stays as it is, its spare room too; answers are new memory.
func TestMemory(t *testing.T) {
	parts, keptParts := sample.Guard([]doc.Part{{Text: "a\n"}, based("b\n", "c\n", "d\n"), {Text: "e\n"}}, doc.Part{Text: "spare"})
	sides, keptSides := sample.Guard([]int{api.Base}, 9)
	resolve.All(parts, api.Left)
	resolve.Each(parts, sides...)
	one, _ := resolve.One(parts, 0, api.Base)
	two, _ := resolve.One(parts, 0, api.Base)
	clear(one)
	_ = append(two, doc.Part{Text: "new"})
	if !keptParts() || !keptSides() || !doc.Same(two, doc.Doc{{Text: "a\nc\ne\n"}}) {
		t.Error(parts, sides, two)
	}
}
