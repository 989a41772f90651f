package patch_test

import (
	"reflect"
	"slices"
	"strings"
	"testing"

	"tripartite/api"
	"tripartite/edit"
	"tripartite/lcs"
	"tripartite/lines"
	"tripartite/patch"
	"tripartite/sample"
)

func keep(texts ...string) edit.Step { return edit.Step{Kind: edit.Keep, Texts: texts} }
func drop(texts ...string) edit.Step { return edit.Step{Kind: edit.Drop, Texts: texts} }
func add(texts ...string) edit.Step  { return edit.Step{Kind: edit.Add, Texts: texts} }

func hunk(a, b int, l ...edit.Step) patch.Hunk { return patch.Hunk{A: a, B: b, Steps: l} }

func script(a, b string) []edit.Step {
	from, to := lines.Split(a), lines.Split(b)
	n := lines.Number(from, to)
	l, _ := edit.Of(from, to, lcs.Match(n[0], n[1]))
	return l
}

// texts are all short ones of some lines, the last of which may lack its end.
func texts(n int) []string {
	var all []string
	for _, l := range sample.Lists(n, "a\n", "b\n") {
		s := lines.Join(l...)
		all = append(all, s)
		if s != "" {
			all = append(all, strings.TrimSuffix(s, "\n"))
		}
	}
	return all
}

func same(a, b []patch.Hunk) bool {
	return len(a) == 0 && len(b) == 0 || reflect.DeepEqual(a, b)
}

// P5.1: the example of the document.
func TestExample(t *testing.T) {
	l := patch.Of(script("a\nb\n", "a\nc\n"), 1)
	if s := patch.Text(l); s != "%% -1,2 +1,2 %%\n a\n-b\n+c\n" {
		t.Errorf("%q", s)
	}
}

// P5.1: changes that few lines part come together.
func TestOf(t *testing.T) {
	two := []edit.Step{keep("1\n", "2\n", "3\n"), drop("4\n"), keep("5\n", "6\n"), add("7\n"), keep("8\n", "9\n")}
	for i, c := range []struct {
		l      []edit.Step
		around int
		want   []patch.Hunk
	}{
		{nil, 3, nil},
		{[]edit.Step{keep("1\n")}, 3, nil},
		{[]edit.Step{drop("1\n"), add("2\n")}, 0, []patch.Hunk{hunk(0, 0, drop("1\n"), add("2\n"))}},
		{two, 0, []patch.Hunk{hunk(3, 3, drop("4\n")), hunk(6, 5, add("7\n"))}},
		{two, 1, []patch.Hunk{hunk(2, 2, keep("3\n"), drop("4\n"), keep("5\n", "6\n"), add("7\n"), keep("8\n"))}},
		{two, 2, []patch.Hunk{hunk(1, 1, keep("2\n", "3\n"), drop("4\n"), keep("5\n", "6\n"), add("7\n"), keep("8\n", "9\n"))}},
		{two, 100, []patch.Hunk{hunk(0, 0, two...)}},
		{
			[]edit.Step{add("0\n"), keep("1\n", "2\n", "3\n"), drop("4\n")}, 1,
			[]patch.Hunk{hunk(0, 0, add("0\n"), keep("1\n")), hunk(2, 3, keep("3\n"), drop("4\n"))},
		},
		{
			[]edit.Step{drop("0\n"), keep("1\n"), drop("2")}, 0,
			[]patch.Hunk{hunk(0, 0, drop("0\n")), hunk(2, 1, drop("2"))},
		},
	} {
		if l := patch.Of(c.l, c.around); !same(l, c.want) {
			t.Error(i, l)
		}
	}
}

// P5.2, P7: of all short texts, with any number of lines around, the patch is
// Right, leads to the other one, and back, and is told by its Text.
func TestThereAndBack(t *testing.T) {
	all := texts(4)
	for _, a := range all {
		for _, b := range all {
			for around := range 3 {
				s := script(a, b)
				check(t, a, b, patch.Of(s, around))
				check(t, b, a, patch.Of(edit.Back(s), around))
			}
		}
	}
}

func check(t *testing.T, a, b string, l []patch.Hunk) {
	t.Helper()
	if !patch.Right(l) {
		t.Fatalf("%q %q: %v isn't Right", a, b, l)
	}
	if got, e, at := patch.Apply(l, a); got != b || e != api.OK || at != -1 {
		t.Fatalf("%q %q: %q %v %d", a, b, got, e, at)
	}
	if got, e := patch.Parse(patch.Text(l)); e != api.OK || !same(got, l) {
		t.Fatalf("%q %q: %q: %v %v", a, b, patch.Text(l), got, e)
	}
}

// P5.1: of scripts of some length: how many lines stand around each change, and between Hunks.
func TestLinesAround(t *testing.T) {
	for _, gaps := range sample.Lists(3, 1, 2, 3, 4, 5, 7) {
		for around := range 4 {
			var l []edit.Step
			for i, n := range gaps {
				if i > 0 {
					l = append(l, drop("x\n"), add("y\n"))
				}
				l = append(l, keep(slices.Repeat([]string{"k\n"}, n)...))
			}
			checkAround(t, gaps, around, patch.Of(l, around))
		}
	}
}

func checkAround(t *testing.T, gaps []int, around int, l []patch.Hunk) {
	t.Helper()
	var want [][]int
	for i := 1; i < len(gaps); i++ {
		if i > 1 && gaps[i-1] <= 2*around {
			h := want[len(want)-1]
			h[len(h)-1] = gaps[i-1]
			want[len(want)-1] = append(h, min(gaps[i], around))
			continue
		}
		want = append(want, []int{min(gaps[i-1], around), min(gaps[i], around)})
	}
	var got [][]int
	for _, h := range l {
		got = append(got, kept(h))
	}
	if !slices.EqualFunc(got, want, slices.Equal) {
		t.Fatal(gaps, around, got, "not", want)
	}
}

// kept are how many lines are kept ahead of each change of a Hunk, and behind the last one.
func kept(h patch.Hunk) []int {
	all := []int{0}
	for _, s := range h.Steps {
		switch s.Kind {
		case edit.Keep:
			all[len(all)-1] = len(s.Texts)
		case edit.Add:
			all = append(all, 0)
		}
	}
	return all
}

// P5.1: what may be a patch.
func TestRight(t *testing.T) {
	for i, l := range [][]patch.Hunk{
		nil,
		{},
		{hunk(0, 0, drop("a"))},
		{hunk(999999, 999999, add("a\n"))},
		{hunk(3, 3, keep("a\n"), drop("b"), add("c"))},
		{hunk(3, 3, drop("b\n"), keep("c"))},
		{hunk(3, 3, drop("b"), add("c\n"))},
		{hunk(0, 0, drop("a\n")), hunk(1, 0, drop("b\n"))},
		{hunk(0, 0, add("a\n")), hunk(0, 1, add("b"))},
		{hunk(1, 1, add("a\n", "b\n")), hunk(5, 7, drop("c\n")), hunk(6, 7, add("d"))},
	} {
		if !patch.Right(l) {
			t.Error(i, l)
		}
	}
	for i, l := range [][]patch.Hunk{
		{hunk(0, 0)},
		{hunk(0, 0, keep("a\n"))},
		{hunk(0, 0, add("a\n"), drop("b\n"))},
		{hunk(0, 0, drop())},
		{hunk(0, 0, edit.Step{Kind: 3, Texts: []string{"a\n"}})},
		{hunk(0, 0, drop(""))},
		{hunk(0, 0, drop("a\nb\n"))},
		{hunk(0, 0, drop("a\nb"))},
		{hunk(0, 0, drop("a", "b\n"))},
		{hunk(0, 0, drop("a"), keep("b\n"))},
		{hunk(0, 0, add("a"), keep("b\n"))},
		{hunk(0, 0, keep("a"), add("b\n"))},
		{hunk(0, 0, keep("a"), drop("b\n"))},
		{hunk(-1, -1, drop("a\n"))},
		{hunk(1000000, 1000000, drop("a\n"))},
		{hunk(0, 1, drop("a\n"))},
		{hunk(1, 0, drop("a\n"))},
		{hunk(0, 0, drop("a")), hunk(1, 0, drop("b\n"))},
		{hunk(0, 0, add("a")), hunk(1, 2, drop("b\n"))},
		{hunk(0, 0, drop("a\n")), hunk(0, -1, drop("b\n"))},
		{hunk(0, 0, drop("a\n")), hunk(1, 1, drop("b\n"))},
		{hunk(0, 0, drop("a\n"), keep("b\n")), hunk(1, 0, drop("c\n"))},
		{hunk(5, 5, drop("a\n")), hunk(2, 1, drop("b\n"))},
		{hunk(-1<<63, -1<<63, drop("a\n"))},
		{hunk(1<<63-1, 1<<63-1, drop("a\n"))},
	} {
		if patch.Right(l) {
			t.Error(i, l)
		}
		if s := patch.Text(l); s != "" {
			t.Error(i, s)
		}
		if s, e, at := patch.Apply(l, "a\nb\n"); s != "" || e != api.ErrForm || at != -1 {
			t.Error(i, s, e, at)
		}
	}
}

// P5.1: the words of lines without their end, and of places behind others.
func TestText(t *testing.T) {
	l := []patch.Hunk{
		hunk(2, 2, add("%% -1,2 +1,2 %%\n", "\n")),
		hunk(4, 6, keep("\\ no end\n"), drop("- a\xff\n", "b"), add("c")),
	}
	want := "%% -3,0 +3,2 %%\n+%% -1,2 +1,2 %%\n+\n%% -5,3 +7,2 %%\n \\ no end\n-- a\xff\n-b\n\\ no end\n+c\n\\ no end\n"
	if s := patch.Text(l); s != want {
		t.Errorf("%q", s)
	}
	if got, e := patch.Parse(want); e != api.OK || !same(got, l) {
		t.Error(got, e)
	}
	if got, e := patch.Parse(""); e != api.OK || len(got) != 0 {
		t.Error(got, e)
	}
	kept := []patch.Hunk{hunk(999999, 999999, drop("a\n"), keep("b"))}
	want = "%% -1000000,2 +1000000,1 %%\n-a\n b\n\\ no end\n"
	if s := patch.Text(kept); s != want {
		t.Errorf("%q", s)
	}
}

// P5.1: what is no Right patch's Text.
func TestParseOther(t *testing.T) {
	for _, s := range []string{
		"a", "\n", " a\n", "\\ no end\n", "%% -1,1 +1,0 %%\n", "%%\n", "%% -1,1 +1,0 %%",
		"%% -1,1 +1,0 %%\n-a", "%% -1,1 +1,0 %%\n-a\n\n", "%% -1,1 +1,0 %%\n-a\nb\n", "%% -1,1 +1,0 %%\n-a\n*b\n",
		"%% -1,2 +1,0 %%\n-a\n", "%% -1,1 +1,1 %%\n-a\n", "%% -01,1 +1,0 %%\n-a\n", "%% -1,1 +1,00 %%\n-a\n",
		"%% -+1,1 +1,0 %%\n-a\n", "%% --1,1 +-1,0 %%\n-a\n", "%% -0,1 +0,0 %%\n-a\n", "%% -1,1 +2,0 %%\n-a\n",
		"%% -1,1 1,0 %%\n-a\n", "%% -1 +1,0 %%\n-a\n", "%% -1,1 +1 %%\n-a\n", "%% -1,1 +1,0\n-a\n", "%% -1,1,1 +1,0 %%\n-a\n",
		"%% -x,1 +x,0 %%\n-a\n", "%% -99999999999999999999,1 +99999999999999999999,0 %%\n-a\n",
		"%% -1000001,1 +1000001,0 %%\n-a\n", "%%  -1,1 +1,0 %%\n-a\n", "%% -1,1 +1,0 %%x\n-a\n",
		"%% -9223372036854775808,1 +-9223372036854775808,0 %%\n-a\n",
		"%% -1,1 +1,1 %%\n a\n", "%% -1,1 +1,1 %%\n+b\n-a\n",
		"%% -1,1 +1,0 %%\n\\ no end\n-a\n", "%% -1,1 +1,0 %%\n-\n\\ no end\n",
		"%% -1,1 +1,0 %%\n-a\n\\ no end\n\\ no end\n", "%% -1,1 +1,0 %%\n-a\n\\ no end", "%% -1,1 +1,0 %%\n-a\n\\ no End\n",
		"%% -1,2 +1,0 %%\n-a\n\\ no end\n-b\n", "%% -1,1 +1,2 %%\n a\n\\ no end\n+b\n",
		"%% -1,1 +1,0 %%\n-a\n\\ no end\n%% -2,1 +1,0 %%\n-b\n", "%% -1,1 +1,0 %%\n-a\n%% -1,1 +0,0 %%\n-b\n",
	} {
		if l, e := patch.Parse(s); e != api.ErrForm || l != nil {
			t.Errorf("%q: %v %v", s, l, e)
		}
	}
}

// P5.1: what is parsed has just that Text, whichever byte of a Text is another one.
func TestParseOfChangedTexts(t *testing.T) {
	s := "%% -2,2 +2,2 %%\n a\n-b\n+c\n%% -10,2 +10,2 %%\n-d\n+d\n e\n\\ no end\n"
	if _, e := patch.Parse(s); e != api.OK {
		t.Fatal(e)
	}
	for i := range s {
		for _, c := range []string{"", "\n", " ", "-", "+", "0", "1", "%", "\\", "x"} {
			changed := s[:i] + c + s[i+1:]
			l, e := patch.Parse(changed)
			if e == api.OK && (!patch.Right(l) || patch.Text(l) != changed) || e != api.OK && (e != api.ErrForm || l != nil) {
				t.Errorf("%q: %v %v", changed, l, e)
			}
		}
	}
}

// P5.1: a patch is applied only where its lines stand; else it is told which Hunk's don't.
func TestApply(t *testing.T) {
	l := []patch.Hunk{
		hunk(0, 0, drop("a\n"), add("x\n", "y\n")),
		hunk(2, 3, keep("c\n"), drop("d\n"), keep("e\n")),
	}
	for i, c := range []struct {
		l    []patch.Hunk
		s    string
		want string
		e    api.Errno
		at   int
	}{
		{l, "a\nb\nc\nd\ne\nf", "x\ny\nb\nc\ne\nf", api.OK, -1},
		{l, "b\nb\nc\nd\ne\n", "", api.ErrMatch, 0},
		{l, "", "", api.ErrMatch, 0},
		{l, "a", "", api.ErrMatch, 0},
		{l, "a\nb\nc\nd\n", "", api.ErrMatch, 1},
		{l, "a\nb\nc\nd\ne", "", api.ErrMatch, 1},
		{l, "a\n", "", api.ErrMatch, 1},
		{l, "x\nb\nc\nx\ne\n", "", api.ErrMatch, 0},
		{nil, "a\nb", "a\nb", api.OK, -1},
		{nil, "", "", api.OK, -1},
		{[]patch.Hunk{hunk(1, 1, add("b\n"))}, "a\n", "a\nb\n", api.OK, -1},
		{[]patch.Hunk{hunk(1, 1, add("b\n"))}, "", "", api.ErrMatch, 0},
		{[]patch.Hunk{hunk(1, 1, add("b\n"))}, "a", "", api.ErrMatch, 0},
		{[]patch.Hunk{hunk(0, 0, add("b"))}, "a\n", "", api.ErrMatch, 0},
		{[]patch.Hunk{hunk(0, 0, add("b"))}, "", "b", api.OK, -1},
		{[]patch.Hunk{hunk(0, 0, drop("a\n"))}, "a\n", "", api.OK, -1},
		{[]patch.Hunk{hunk(0, 0, drop("a\n"), add("b"))}, "a\nc", "", api.ErrMatch, 0},
		{[]patch.Hunk{hunk(1, 1, add("b\n")), hunk(1, 2, add("c\n"))}, "a", "", api.ErrMatch, 1},
		{[]patch.Hunk{hunk(0, 0, add("b\n")), hunk(0, 1, add("c"))}, "a", "", api.ErrMatch, 1},
	} {
		if s, e, at := patch.Apply(c.l, c.s); s != c.want || e != c.e || at != c.at {
			t.Errorf("%d: %q %v %d", i, s, e, at)
		}
	}
}

// P1: other scripts and numbers come to an end, too.
func TestOtherScripts(t *testing.T) {
	steps := []edit.Step{{Kind: -7, Texts: []string{"a"}}, {Kind: 3}, keep(), add("a\nb", ""), drop("a"), keep("b\n")}
	for _, l := range sample.Lists(3, steps...) {
		for _, around := range []int{-1 << 63, -1, 0, 1, 101, 1 << 62, 1<<63 - 1} {
			patch.Text(patch.Of(l, around))
		}
		hunks := []patch.Hunk{hunk(0, 0, l...), hunk(1<<62, -1, l...)}
		patch.Right(hunks)
		patch.Text(hunks)
		patch.Apply(hunks, "a\n")
	}
}

// P5.3: what is handed in stays as it is, its spare room too; answers are new memory.
func TestMemory(t *testing.T) {
	var keptLists []func() bool
	guarded := func(s edit.Step) edit.Step {
		l, kept := sample.Guard(s.Texts, "spare")
		keptLists = append(keptLists, kept)
		return edit.Step{Kind: s.Kind, Texts: l}
	}
	s := []edit.Step{guarded(keep("1\n", "2\n", "3\n")), guarded(drop("4\n")), guarded(keep("5\n", "6\n")), guarded(add("7\n"))}
	for around := range 3 {
		l := patch.Of(s, around)
		again := patch.Of(s, around)
		want := patch.Text(l)
		patch.Apply(l, "1\n2\n3\n4\n5\n6\n")
		for _, h := range l {
			for _, step := range h.Steps {
				_ = append(step.Texts, "new\n", "new\n")
			}
		}
		if patch.Text(l) != want {
			t.Error("two lists of one answer share memory")
		}
		for _, h := range l {
			for _, step := range h.Steps {
				clear(step.Texts)
			}
			clear(h.Steps)
		}
		if patch.Text(again) != want {
			t.Error("two answers share memory")
		}
	}
	for i, kept := range keptLists {
		if !kept() {
			t.Error(i, s)
		}
	}
}

// P5.3: Text, Right and Apply leave the Hunks as they are.
func TestHunksAreKept(t *testing.T) {
	texts, kept := sample.Guard([]string{"a\n"}, "spare")
	l := []patch.Hunk{hunk(0, 0, edit.Step{Kind: edit.Drop, Texts: texts}), hunk(1, 0, keep("b\n"), add("c"))}
	patch.Right(l)
	patch.Text(l)
	patch.Apply(l, "a\nb\n")
	if !kept() || !same(l, []patch.Hunk{hunk(0, 0, drop("a\n")), hunk(1, 0, keep("b\n"), add("c"))}) {
		t.Error(l)
	}
}
