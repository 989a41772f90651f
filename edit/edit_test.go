package edit_test

import (
	"reflect"
	"slices"
	"testing"

	"tripartite/api"
	"tripartite/edit"
	"tripartite/lcs"
	"tripartite/lines"
	"tripartite/sample"
)

func keep(texts ...string) edit.Step { return edit.Step{Kind: edit.Keep, Texts: texts} }
func drop(texts ...string) edit.Step { return edit.Step{Kind: edit.Drop, Texts: texts} }
func add(texts ...string) edit.Step  { return edit.Step{Kind: edit.Add, Texts: texts} }

func list(texts ...string) []string     { return texts }
func script(l ...edit.Step) []edit.Step { return l }

func match(a, b []string) []lcs.Pair {
	n := lines.Number(a, b)
	return lcs.Match(n[0], n[1])
}

// P4.1: the scripts of some lists.
func TestOf(t *testing.T) {
	for i, c := range []struct {
		a, b []string
		l    []lcs.Pair
		want []edit.Step
	}{
		{nil, nil, nil, nil},
		{list("a", "b"), list("b", "c"), []lcs.Pair{{A: 1, B: 0}}, script(drop("a"), keep("b"), add("c"))},
		{list("a", "b"), list("b", "c"), nil, script(drop("a", "b"), add("b", "c"))},
		{list("a"), nil, nil, script(drop("a"))},
		{nil, list("a", ""), nil, script(add("a", ""))},
		{list("a", "b"), list("a", "b"), []lcs.Pair{{A: 0, B: 0}, {A: 1, B: 1}}, script(keep("a", "b"))},
		{list("a", "b"), list("a", "b"), []lcs.Pair{{A: 1, B: 1}}, script(drop("a"), add("a"), keep("b"))},
		{list("a", "x", "b"), list("a", "y", "z", "b"), []lcs.Pair{{A: 0, B: 0}, {A: 2, B: 3}}, script(keep("a"), drop("x"), add("y", "z"), keep("b"))},
	} {
		if l, e := edit.Of(c.a, c.b, c.l); e != api.OK || !slices.EqualFunc(l, c.want, same) {
			t.Error(i, l, e)
		}
	}
}

func same(a, b edit.Step) bool { return a.Kind == b.Kind && slices.Equal(a.Texts, b.Texts) }

// P4.1: what is no matching is refused.
func TestOfNoMatching(t *testing.T) {
	for _, l := range [][]lcs.Pair{
		{{A: -1, B: 0}}, {{A: 0, B: -1}}, {{A: 2, B: 0}}, {{A: 0, B: 2}}, {{A: 0, B: 1}},
		{{A: 0, B: 0}, {A: 0, B: 0}}, {{A: 1, B: 1}, {A: 0, B: 0}},
	} {
		if got, e := edit.Of(list("a", "b"), list("a", "b"), l); e != api.ErrMatch || got != nil {
			t.Error(l, got, e)
		}
	}
}

// P4.2: of all short lists, by their longest matching and by each single Pair, the script leads there and back.
func TestThereAndBack(t *testing.T) {
	lists := sample.Lists(4, "a", "b", "c")
	for _, a := range lists {
		for _, b := range lists {
			check(t, a, b, match(a, b))
			check(t, a, b, nil)
			for i, x := range a {
				if j := slices.Index(b, x); j >= 0 {
					check(t, a, b, []lcs.Pair{{A: i, B: j}})
				}
			}
		}
	}
}

func check(t *testing.T, a, b []string, l []lcs.Pair) {
	t.Helper()
	s, e := edit.Of(a, b, l)
	if e != api.OK || !edit.Right(s) {
		t.Fatal(a, b, l, s, e)
	}
	kept, dropped, added := edit.Counts(s)
	if kept != len(l) || dropped != len(a)-len(l) || added != len(b)-len(l) {
		t.Fatal(a, b, l, kept, dropped, added)
	}
	back := edit.Back(s)
	if !edit.Right(back) || !slices.EqualFunc(edit.Back(back), s, same) {
		t.Fatal(a, b, l, back)
	}
	to, e := edit.Apply(s, a)
	from, f := edit.Apply(back, b)
	if e != api.OK || f != api.OK || !slices.Equal(to, b) || !slices.Equal(from, a) {
		t.Fatal(a, b, l, to, from)
	}
	if !slices.Equal(pairs(s), l) {
		t.Fatal(a, b, l, "not just its Pairs are kept:", pairs(s))
	}
}

// pairs are those that a script keeps.
func pairs(l []edit.Step) []lcs.Pair {
	var all []lcs.Pair
	a, b := 0, 0
	for _, s := range l {
		for range s.Texts {
			switch s.Kind {
			case edit.Keep:
				all = append(all, lcs.Pair{A: a, B: b})
				a, b = a+1, b+1
			case edit.Drop:
				a++
			case edit.Add:
				b++
			}
		}
	}
	return all
}

// P4.1: the kinds' numbers.
func TestKinds(t *testing.T) {
	if kinds := []int{edit.Keep, edit.Drop, edit.Add}; !slices.Equal(kinds, []int{0, 1, 2}) {
		t.Error(kinds)
	}
}

// P4.1: which scripts are Right.
func TestRight(t *testing.T) {
	for _, l := range [][]edit.Step{
		nil, {}, {keep("")}, {drop("a")}, {add("a", "b")}, {drop("a"), add("a")}, {keep("a"), drop("a"), add("a"), keep("a")},
		{add("a"), keep("a"), drop("a")},
	} {
		if !edit.Right(l) {
			t.Error(l, "isn't Right")
		}
	}
	for _, l := range [][]edit.Step{
		{{Kind: -1, Texts: list("a")}}, {{Kind: 3, Texts: list("a")}}, {keep()}, {keep("a"), drop()}, {add(), keep("a")},
		{keep("a"), keep("b")}, {drop("a"), drop("b")}, {add("a"), add("b")}, {add("a"), drop("b")},
		{keep("a"), add("b"), drop("c"), keep("d")},
	} {
		if edit.Right(l) {
			t.Error(l, "is Right")
		}
	}
}

// P4.1: a script is applied only to what it leads from.
func TestApply(t *testing.T) {
	l := script(keep("a"), drop("b"), add("c", "d"), keep("e"))
	if to, e := edit.Apply(l, list("a", "b", "e")); e != api.OK || !slices.Equal(to, list("a", "c", "d", "e")) {
		t.Error(to, e)
	}
	for _, a := range [][]string{nil, list("a"), list("a", "b"), list("a", "c", "e"), list("a", "b", "e", "f"), list("x", "a", "b", "e"), list("abe")} {
		if to, e := edit.Apply(l, a); e != api.ErrMatch || to != nil {
			t.Error(a, to, e)
		}
	}
	if to, e := edit.Apply(nil, nil); e != api.OK || len(to) != 0 {
		t.Error(to, e)
	}
	if to, e := edit.Apply(script(drop("a")), list("a")); e != api.OK || len(to) != 0 {
		t.Error(to, e)
	}
}

// P4.1: what is counted.
func TestCounts(t *testing.T) {
	if k, d, a := edit.Counts(script(keep("a"), drop("b", "c"), add("d", "e", "f"), keep("g"), add("h"))); k != 2 || d != 2 || a != 4 {
		t.Error(k, d, a)
	}
	if k, d, a := edit.Counts(nil); k != 0 || d != 0 || a != 0 {
		t.Error(k, d, a)
	}
}

// P4.1: on the way back, too, what is dropped stands ahead of what is added.
func TestBack(t *testing.T) {
	got := edit.Back(script(add("a"), keep("b"), drop("c"), add("d"), keep("e"), drop("f")))
	want := script(drop("a"), keep("b"), drop("d"), add("c"), keep("e"), add("f"))
	if !slices.EqualFunc(got, want, same) {
		t.Error(got)
	}
	if len(edit.Back(nil)) != 0 {
		t.Error("the way back of none")
	}
}

// P1: scripts that aren't Right come to an end, too.
func TestOtherScripts(t *testing.T) {
	steps := []edit.Step{{Kind: -7, Texts: list("a")}, {Kind: 3}, keep(), add("a"), drop("a"), keep("b")}
	for _, l := range sample.Lists(4, steps...) {
		edit.Right(l)
		edit.Back(l)
		edit.Counts(l)
		edit.Apply(l, list("a", "b"))
	}
}

// P4.3: what is handed in stays as it is, its spare room too; no two lists share memory.
func TestMemory(t *testing.T) {
	a, keptA := sample.Guard(list("a", "b", "c", "d"), "spare")
	b, keptB := sample.Guard(list("b", "x", "y", "d"), "spare")
	l, keptL := sample.Guard([]lcs.Pair{{A: 1, B: 0}, {A: 3, B: 3}}, lcs.Pair{})
	s, _ := edit.Of(a, b, l)
	again, _ := edit.Of(a, b, l)
	back := edit.Back(s)
	edit.Apply(s, a)
	edit.Right(s)
	edit.Counts(s)
	if !reflect.DeepEqual(s, again) {
		t.Error("a script was changed")
	}
	for i := range s {
		_ = append(s[i].Texts, "new", "new", "new")
		s[i].Texts[0] = "new"
	}
	want, _ := edit.Of(a, b, l)
	if !slices.EqualFunc(edit.Back(back), want, same) || !slices.EqualFunc(again, want, same) {
		t.Error("two answers share memory")
	}
	to, _ := edit.Apply(script(keep("a")), list("a"))
	to[0] = "new"
	if !keptA() || !keptB() || !keptL() {
		t.Error(a, b, l)
	}
}

// P4.3: neither Apply nor Back touches the texts of a script, or their spare room.
func TestScriptIsKept(t *testing.T) {
	kept := map[int]func() bool{}
	var l []edit.Step
	for i, kind := range []int{edit.Keep, edit.Drop, edit.Add} {
		var texts []string
		texts, kept[i] = sample.Guard(list("a"), "spare")
		l = append(l, edit.Step{Kind: kind, Texts: texts})
	}
	to, _ := edit.Apply(l, list("a", "a"))
	clear(to)
	back := edit.Back(l)
	for _, s := range back {
		clear(s.Texts)
	}
	for i, whole := range kept {
		if !whole() {
			t.Error(i, l)
		}
	}
}
