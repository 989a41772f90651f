package lines_test

import (
	"slices"
	"strings"
	"testing"

	"tripartite/lines"
	"tripartite/sample"
)

// texts are all short ones of some bytes, among them an end, a sign and one that is no text of UTF-8.
func texts() []string {
	var all []string
	for _, l := range sample.Lists(5, byte('a'), '\n', '<', 0xff) {
		all = append(all, string(l))
	}
	return all
}

// P1.1: the lines of a text.
func TestSplit(t *testing.T) {
	for s, want := range map[string][]string{
		"":           nil,
		"a":          {"a"},
		"a\n":        {"a\n"},
		"\n":         {"\n"},
		"\n\n":       {"\n", "\n"},
		"a\nb":       {"a\n", "b"},
		"a\r\n\rb\n": {"a\r\n", "\rb\n"},
		"\xff\x00\n": {"\xff\x00\n"},
	} {
		if l := lines.Split(s); !slices.Equal(l, want) {
			t.Errorf("%q: %q", s, l)
		}
	}
}

// P1.1: each line but the last one goes up to an end, and has just that one.
func TestSplitOfAll(t *testing.T) {
	for _, s := range texts() {
		l := lines.Split(s)
		for i, line := range l {
			ends := strings.Count(line, "\n")
			if line == "" || ends > 1 || ends == 1 && !strings.HasSuffix(line, "\n") || ends == 0 && i < len(l)-1 {
				t.Errorf("%q: %q", s, l)
			}
		}
	}
}

// P1.1: all texts, one behind the other.
func TestJoin(t *testing.T) {
	if s := lines.Join(); s != "" {
		t.Errorf("%q", s)
	}
	if s := lines.Join("a", "", "b\n", "c"); s != "ab\nc" {
		t.Errorf("%q", s)
	}
}

// P1.1: what may be a text's lines.
func TestWhole(t *testing.T) {
	for _, l := range [][]string{nil, {}, {"a"}, {"a\n"}, {"\n"}, {"a\n", "b"}, {"\n", "\n"}, {"a\n", "b\n"}} {
		if !lines.Whole(l) {
			t.Errorf("%q isn't Whole", l)
		}
	}
	for _, l := range [][]string{{""}, {"a", "b\n"}, {"a\n", ""}, {"", "a\n"}, {"a\nb"}, {"a\nb\n"}, {"\n\n"}, {"a", "b"}, {"\na"}} {
		if lines.Whole(l) {
			t.Errorf("%q is Whole", l)
		}
	}
}

// P1.2: what is split, joined, is as it was.
func TestSplitAndJoin(t *testing.T) {
	for _, s := range texts() {
		l := lines.Split(s)
		if lines.Join(l...) != s || !lines.Whole(l) {
			t.Errorf("%q: %q", s, l)
		}
	}
}

// P1.2: what is Whole, joined and split, is as it was; what isn't, is not.
func TestJoinAndSplit(t *testing.T) {
	for _, l := range sample.Lists(4, "", "a", "\n", "a\n", "a\nb", "\n\n") {
		back := slices.Equal(lines.Split(lines.Join(l...)), l)
		if back != lines.Whole(l) {
			t.Errorf("%q: back %t, Whole %t", l, back, lines.Whole(l))
		}
	}
}

// P1.1: numbers are given from 0 on, where a text is met first, over all files.
func TestNumber(t *testing.T) {
	n := lines.Number([]string{"b", "a", "b"}, nil, []string{"c", "a", ""}, []string{"c"})
	want := [][]int{{0, 1, 0}, nil, {2, 1, 3}, {2}}
	if !slices.EqualFunc(n, want, slices.Equal) {
		t.Error(n)
	}
	if len(lines.Number()) != 0 {
		t.Error("numbers of no file")
	}
	if n := lines.Number(nil, nil); len(n) != 2 || len(n[0]) != 0 || len(n[1]) != 0 {
		t.Error(n)
	}
}

// P1.1: two texts are the same just if their numbers are.
func TestNumberOfAll(t *testing.T) {
	lists := sample.Lists(3, "a", "b", "a\n")
	for _, a := range lists {
		for _, b := range lists {
			n := lines.Number(a, b)
			texts := slices.Concat(a, b)
			numbers := slices.Concat(n[0], n[1])
			next := 0
			for i, x := range numbers {
				if first := slices.Index(texts, texts[i]); numbers[first] != x || first == i && x != next {
					t.Fatalf("%q %q: %v", a, b, n)
				} else if first == i {
					next++
				}
			}
		}
	}
}

// P1.1: how often a line's first byte stands at its beginning, if it is a sign.
func TestRun(t *testing.T) {
	for line, want := range map[string]int{
		"": 0, "a": 0, "aa": 0, "a<": 0, " <": 0, "\n": 0, "!": 0, "\xff": 0, "\x00": 0, "-": 0,
		"<": 1, "<<<a": 3, "|": 1, "||": 2, "===x": 3, ">>>>\n": 4, "<=": 1, "==<==": 2, "<\n<": 1,
	} {
		if n := lines.Run(line); n != want {
			t.Errorf("%q: %d", line, n)
		}
	}
	if n := lines.Run(strings.Repeat("=", 100000)); n != 100000 {
		t.Error(n)
	}
}

// P1.1: the greatest Run of all files.
func TestLongest(t *testing.T) {
	for i, c := range []struct {
		files [][]string
		want  int
	}{
		{nil, 0},
		{[][]string{nil, {}}, 0},
		{[][]string{{"a", ""}}, 0},
		{[][]string{{"<<", "a", "==="}, {">"}}, 3},
		{[][]string{{"<"}, nil, {"||||", "a"}}, 4},
		{[][]string{{"a=====", "="}}, 1},
	} {
		if n := lines.Longest(c.files...); n != c.want {
			t.Error(i, n)
		}
	}
}

// P1.3: what is handed in stays as it is, its spare room too.
func TestHandedInIsKept(t *testing.T) {
	a, keptA := sample.Guard([]string{"a\n", "b\n", "<<"}, "spare")
	b, keptB := sample.Guard([]string{"b\n", "c"}, "spare")
	lines.Join(a...)
	lines.Whole(a)
	lines.Number(a, b)
	lines.Longest(a, b)
	if !keptA() || !keptB() {
		t.Error(a, b)
	}
}

// P1.3: no two answers share memory, and no two lists of one answer.
func TestAnswersAreNew(t *testing.T) {
	one, two := lines.Split("a\nb\n"), lines.Split("a\nb\n")
	one[0] = "x"
	_ = append(one[:1], "y")
	if !slices.Equal(two, []string{"a\n", "b\n"}) {
		t.Error(two)
	}
	n := lines.Number([]string{"a"}, []string{"b", "c"})
	_ = append(n[0], 9, 9, 9)
	if !slices.Equal(n[1], []int{1, 2}) {
		t.Error(n)
	}
}
