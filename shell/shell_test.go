package shell_test

import (
	"math/rand"
	"slices"
	"strconv"
	"strings"
	"testing"

	"tripartite/api"
	"tripartite/doc"
	"tripartite/edit"
	"tripartite/lcs"
	"tripartite/lines"
	"tripartite/mark"
	"tripartite/merge"
	"tripartite/parse"
	"tripartite/patch"
	"tripartite/resolve"
	"tripartite/shell"
)

// talk has a new Shell do lines, each followed by the reply that is asked for.
func talk(t *testing.T, linesAndReplies ...string) {
	t.Helper()
	s := shell.New()
	for i := 0; i < len(linesAndReplies); i += 2 {
		if got := s.Do(linesAndReplies[i]); got != linesAndReplies[i+1] {
			t.Errorf("line %d, %q: %q, not %q", i/2, linesAndReplies[i], got, linesAndReplies[i+1])
		}
	}
}

// P13.1: the examples of the document.
func TestExamples(t *testing.T) {
	talk(t,
		"add base a", "ok", "add left b", "ok", "add right c", "ok", "merge", "1",
		"text", "<<<<<<<;b;=======;c;>>>>>>>;", "resolve right", "c;",
	)
	got := shell.Lines([]string{"add base a", "add left b", "add right c", "merge", "resolve right"})
	if !slices.Equal(got, []string{"ok", "ok", "ok", "1", "c;"}) {
		t.Error(got)
	}
	if len(shell.Lines(nil)) != 0 {
		t.Error("no lines have no replies")
	}
}

// P13.1: texts are made line by line, of whatever bytes.
func TestFiles(t *testing.T) {
	talk(t,
		"bare base", "what", "parse 7", "0", "text", "none",
		"add base ", "ok", "parse 7", "0", "text", ";",
		"add base  a  b ", "ok", "parse 7", "0", "text", "; a  b ;",
		"bare base", "ok", "parse 7", "0", "text", "; a  b ",
		"bare base", "what", "add base x\ny\xff", "ok", "parse 7", "0", "text", "; a  b x;y\xff;",
		"clear base", "ok", "parse 7", "0", "text", "none", "bare base", "what", "clear base", "ok",
		"add base \n", "ok", "bare base", "ok", "bare base", "ok", "bare base", "what",
		"add left l", "ok", "add right r", "ok", "clear left", "ok", "merge", "0", "text", "r;",
		"bare right", "ok", "merge", "0", "text", "r", "clear right", "ok", "merge", "0", "text", "none",
	)
}

// P13.1: the options, which any numbers may be, till a merge is asked for.
func TestOptions(t *testing.T) {
	talk(t,
		"add base a", "ok", "add left x", "ok", "add left y", "ok", "add right x", "ok", "add right z", "ok",
		"style 1", "ok", "labels l - r", "ok", "merge", "1", "text", "<<<<<<< l;x;y;|||||||;a;=======;x;z;>>>>>>> r;", "wide", "7",
		"style 2", "ok", "labels - b -", "ok", "width 8", "ok", "merge", "1", "text", "x;<<<<<<<<;y;|||||||| b;a;========;z;>>>>>>>>;", "wide", "8",
		"style 0", "ok", "labels  - --", "ok", "merge", "1", "text", "<<<<<<<<;x;y;========;x;z;>>>>>>>> --;",
		"favour 1", "ok", "merge", "1", "text", "x;y;", "favour 3", "ok", "merge", "1", "text", "x;z;",
		"favour 2", "ok", "merge", "style", "text", "x;z;", "favour 0", "ok", "style 3", "ok", "merge", "style",
		"style 1000000", "ok", "width 6", "ok", "merge", "width", "labels \n b r", "ok", "merge", "label",
		"width 65", "ok", "labels a b c", "ok", "merge", "width", "width 0", "ok", "merge", "width",
		"style 1", "ok", "width 64", "ok", "merge", "1", "wide", "64",
	)
}

// P13.1: what is told of the pieces.
func TestChunks(t *testing.T) {
	talk(t,
		"chunks", "no doc", "merge", "0", "chunks", "none",
		"add base k", "ok", "add base a", "ok", "add base m", "ok",
		"add left k", "ok", "add left m", "ok", "add right k", "ok", "add right x", "ok", "add right y", "ok", "add right m", "ok",
		"chunks", "none", "merge", "1", "chunks", "s 0 1 0 1 0 1;c 1 2 1 1 1 3;s 2 3 1 2 3 4",
		"pick 0 right", "0", "chunks", "s 0 1 0 1 0 1;c 1 2 1 1 1 3;s 2 3 1 2 3 4",
		"parse 7", "0", "chunks", "none",
	)
}

// P13.1: conflicts are picked one by one; text, width and chunks stay.
func TestPick(t *testing.T) {
	talk(t,
		"add base a", "ok", "add base k", "ok", "add base b", "ok",
		"add left 1", "ok", "add left k", "ok", "add left 2", "ok",
		"add right 3", "ok", "add right k", "ok", "add right 4", "ok", "bare right", "ok",
		"pick 0 left", "no doc", "resolve left", "no doc", "show", "no doc", "text", "no doc", "wide", "no doc",
		"merge", "2", "pick 2 left", "argument", "pick 0 base", "argument", "resolve base", "argument",
		"pick 1 right", "1", "show", "<<<<<<<;1;=======;3;>>>>>>>;k;4",
		"text", "<<<<<<<;1;=======;3;>>>>>>>;k;<<<<<<<;2;=======;4;>>>>>>>!;",
		"resolve left", "1;k;4", "resolve right", "3;k;4", "pick 1 left", "argument",
		"pick 0 left", "0", "show", "1;k;4", "resolve base", "1;k;4", "pick 0 left", "argument",
		"style 1", "ok", "merge", "2", "resolve base", "a;k;b;", "pick 0 base", "1", "show", "a;k;<<<<<<<;2;|||||||;b;=======;4;>>>>>>>!;",
		"favour 2", "ok", "merge", "style", "show", "a;k;<<<<<<<;2;|||||||;b;=======;4;>>>>>>>!;",
	)
}

// P13.1: a side without its end is no text ahead of others.
func TestPickForm(t *testing.T) {
	talk(t,
		"add base <", "ok", "add base a", "ok", "add base =!", "ok", "add base b", "ok", "add base >", "ok", "add base c", "ok",
		"parse 1", "1", "pick 0 left", "form", "show", "<;a;=!;b;>;c;", "pick 0 right", "0", "show", "b;c;",
	)
}

// P13.1: the changes of a side.
func TestDiff(t *testing.T) {
	talk(t,
		"diff left 3", "none", "add base a", "ok", "add base b", "ok", "add left a", "ok", "add left c", "ok", "bare left", "ok",
		"diff left 1", "%% -1,2 +1,2 %%; a;-b;+c;\\ no end;", "diff left 0", "%% -2,1 +2,1 %%;-b;+c;\\ no end;",
		"diff right 100", "%% -1,2 +1,0 %%;-a;-b;", "diff base 3", "none", "diff left 101", "what", "diff middle 1", "what",
		"diff left", "what", "diff left x", "what", "diff left 1 1", "what",
	)
}

// P13.1: a text with markers is read back.
func TestParse(t *testing.T) {
	talk(t,
		"parse 0", "width 0", "text", "no doc", "parse 1", "0", "text", "none", "wide", "1", "show", "none",
		"add base << l", "ok", "add base a", "ok", "parse 2", "unclosed 3", "wide", "1", "text", "none",
		"add base ==", "ok", "add base >>! r", "ok", "parse 2", "flag 4", "parse 3", "0", "parse 1", "malformed 1",
		"clear base", "ok", "add base <<", "ok", "add base a", "ok", "add base ==!", "ok", "add base >> r", "ok", "add base b", "ok",
		"text", "<< l;a;==;>>! r;", "parse 2", "1", "wide", "2", "text", "<<;a;==!;>> r;b;", "show", "<<;a;==!;>> r;b;", "chunks", "none",
		"resolve left", "ab;", "resolve right", "b;", "resolve base", "argument",
		"add base <<", "ok", "add base <<", "ok", "parse 2", "nested 7", "clear base", "ok", "add base >>", "ok", "parse 2", "stray 1",
		"text", "<<;a;==!;>> r;b;", "parse 1000000", "0",
	)
}

// P13.1: what is none of the lines, also ahead of there being no Doc.
func TestWhat(t *testing.T) {
	s := shell.New()
	for _, line := range []string{
		"", " ", "x", "Merge", "merge ", " merge", "merge x", "text ", "text 1", "wide x", "chunks ", "show  ", "show\n",
		"add", "add base", "add middle a", "add Base a", "add  base a", " add base a",
		"bare", "bare ", "bare x", "bare base x", "clear", "clear x", "clear base ",
		"style", "style ", "style x", "style 1 1", "style -1", "style +1", "style 01", "style 00", "style 1000001", "style 1.0", "style 0x1", "style 1_0",
		"width", "width 99999999999999999999", "width -0", "favour", "favour ", "favour left",
		"labels", "labels a b", "labels a b c d", "labels a b c ",
		"resolve", "resolve ", "resolve none", "resolve left right", "resolve 1",
		"pick", "pick 0", "pick left 0", "pick 0 x", "pick 0 left ", "pick -1 left", "pick 1000001 left",
		"diff", "diff left", "diff left -1", "diff left 101", "diff left 1 ", "parse", "parse ", "parse x", "parse -1", "parse 7 7",
	} {
		if got := s.Do(line); got != "what" {
			t.Errorf("%q: %q", line, got)
		}
	}
	for _, line := range []string{"text", "wide", "chunks", "resolve left", "resolve base", "resolve right", "pick 0 left", "pick 1000000 base", "show"} {
		if got := s.Do(line); got != "no doc" {
			t.Errorf("%q: %q", line, got)
		}
	}
}

// P13.1: there may be no Shell.
func TestNil(t *testing.T) {
	var s *shell.Shell
	if s.Do("merge") != "what" || s.Do("") != "what" {
		t.Error("a nil Shell")
	}
}

// P13.2: a Shell hangs on its lines alone.
func TestShellsApart(t *testing.T) {
	one, two := shell.New(), shell.New()
	one.Do("add base a")
	one.Do("width 9")
	one.Do("merge")
	if two.Do("text") != "no doc" || two.Do("merge") != "0" || two.Do("text") != "none" || two.Do("wide") != "7" || one.Do("wide") != "9" {
		t.Error("two Shells share something")
	}
	session := randomLines(rand.New(rand.NewSource(4)), 300)
	want := shell.Lines(session)
	s := shell.New()
	for i, line := range session {
		one.Do(line)
		if got := s.Do(line); got != want[i] {
			t.Fatalf("%d, %q: %q, not %q", i, line, got, want[i])
		}
	}
	if !slices.Equal(shell.Lines(session), want) {
		t.Error("another session")
	}
}

// What is handed in stays as it is, its spare room too.
func TestHandedInIsKept(t *testing.T) {
	room := []string{"add base a", "merge", "spare"}
	shell.Lines(room[:2])
	if !slices.Equal(room, []string{"add base a", "merge", "spare"}) {
		t.Error(room)
	}
}

func randomLines(chance *rand.Rand, n int) []string {
	kinds := []string{
		"add base ", "add left ", "add right ", "add base ", "add left ", "add right ", "bare ", "clear ", "style ", "favour ",
		"width ", "labels ", "merge", "merge", "text", "wide", "chunks", "resolve ", "pick ", "show", "diff ", "parse ",
	}
	texts := []string{"a", "b", "", "<<<<<<<", "=======", ">>>>>>>", "====", "||||||||", "======="}
	sides := []string{"base", "left", "right"}
	pick := func(l []string) string { return l[chance.Intn(len(l))] }
	var all []string
	for range n {
		line := pick(kinds)
		switch line {
		case "bare ", "resolve ":
			line += pick(sides)
		case "clear ":
			if chance.Intn(3) > 0 {
				line = "merge"
			} else {
				line += pick(sides)
			}
		case "style ", "favour ":
			line += strconv.Itoa(chance.Intn(4))
		case "width ", "parse ":
			line += strconv.Itoa(6 + chance.Intn(4))
		case "labels ":
			line += pick(texts) + " - " + pick(texts)
		case "pick ":
			line += strconv.Itoa(chance.Intn(2)) + " " + pick(sides)
		case "diff ":
			line += pick(sides) + " " + strconv.Itoa(chance.Intn(3))
		default:
			if strings.HasPrefix(line, "add") {
				line += pick(texts)
			}
		}
		all = append(all, line)
	}
	return all
}

// A model does what lines ask for by the layers below.
type model struct {
	texts   map[string]string
	options merge.Options
	has     bool
	result  merge.Result
}

func told(s string, e api.Errno) string {
	if e != api.OK {
		return e.Word()
	}
	if s == "" {
		return "none"
	}
	return strings.ReplaceAll(s, "\n", ";")
}

func (m *model) do(line string) string {
	words := strings.Split(line, " ")
	number := func(i int) int { n, _ := strconv.Atoi(words[i]); return n }
	side := func(i int) int {
		return map[string]int{"left": api.Left, "base": api.Base, "right": api.Right}[words[i]]
	}
	switch words[0] {
	case "add":
		m.texts[words[1]] += strings.Join(words[2:], " ") + "\n"
		return "ok"
	case "bare":
		if s, ok := strings.CutSuffix(m.texts[words[1]], "\n"); ok {
			m.texts[words[1]] = s
			return "ok"
		}
		return "what"
	case "clear":
		m.texts[words[1]] = ""
		return "ok"
	case "style":
		m.options.Style = number(1)
		return "ok"
	case "favour":
		m.options.Favour = number(1)
		return "ok"
	case "width":
		m.options.Width = number(1)
		return "ok"
	case "labels":
		m.options.Labels = doc.Labels{LeftLabel: words[1], RightLabel: words[3]}
		return "ok"
	case "merge":
		r, e := merge.Texts(m.texts["base"], m.texts["left"], m.texts["right"], m.options)
		if e != api.OK {
			return e.Word()
		}
		m.has, m.result = true, r
		return strconv.Itoa(r.Count)
	case "diff":
		a, b := lines.Split(m.texts["base"]), lines.Split(m.texts[words[1]])
		n := lines.Number(a, b)
		script, _ := edit.Of(a, b, lcs.Match(n[0], n[1]))
		return told(patch.Text(patch.Of(script, number(2))), api.OK)
	case "parse":
		d, e, at := parse.Text(m.texts["base"], number(1))
		if e != api.OK {
			return e.Word() + " " + strconv.Itoa(at)
		}
		m.has, m.result = true, merge.Result{Doc: d, Text: m.texts["base"], Width: number(1)}
		return strconv.Itoa(d.Conflicts())
	}
	if !m.has {
		return "no doc"
	}
	switch words[0] {
	case "text":
		return told(m.result.Text, api.OK)
	case "wide":
		return strconv.Itoa(m.result.Width)
	case "show":
		return told(mark.Print(m.result.Doc, m.result.Width))
	case "resolve":
		return told(resolve.All(m.result.Doc, side(1)))
	case "pick":
		d, e := resolve.One(m.result.Doc, number(1), side(2))
		if e != api.OK {
			return e.Word()
		}
		m.result.Doc = d
		return strconv.Itoa(d.Conflicts())
	}
	var all []string
	for _, c := range m.result.Chunks {
		s := "c"
		if c.Stable {
			s = "s"
		}
		for _, n := range []int{c.Base.From, c.Base.To, c.Left.From, c.Left.To, c.Right.From, c.Right.To} {
			s += " " + strconv.Itoa(n)
		}
		all = append(all, s)
	}
	return told(strings.Join(all, ";"), api.OK)
}

// P8, P13.1, P13.3: lines tell just what the layers below do; behind a merge
// that is done show is told as text.
func TestLayers(t *testing.T) {
	chance := rand.New(rand.NewSource(5))
	for range 300 {
		s := shell.New()
		m := &model{texts: map[string]string{}, options: merge.Default()}
		for _, line := range randomLines(chance, 60) {
			got, want := s.Do(line), m.do(line)
			if got != want {
				t.Fatalf("%q: %q, not %q", line, got, want)
			}
			if _, e := strconv.Atoi(got); line == "merge" && e == nil && s.Do("show") != s.Do("text") {
				t.Fatalf("%q, not %q", s.Do("show"), s.Do("text"))
			}
		}
	}
}

// P13.1: many lines are added within a moment.
func TestManyLines(t *testing.T) {
	s := shell.New()
	for range 100000 {
		if s.Do("add base a line of some length") != "ok" {
			t.Fatal("add")
		}
	}
	if s.Do("diff base 3") != "none" {
		t.Error("diff")
	}
}
