package shell

import (
	"strconv"
	"strings"

	"tripartite/api"
	"tripartite/chunk"
	"tripartite/edit"
	"tripartite/lcs"
	"tripartite/lines"
	"tripartite/mark"
	"tripartite/merge"
	"tripartite/parse"
	"tripartite/patch"
	"tripartite/resolve"
)

// add FILE TEXT: the text is all behind the second blank, blanks and all.
func (s *Shell) add(line string, words []string) string {
	if len(words) < 2 {
		return what
	}
	file, ok := s.file(words[0])
	if !ok {
		return what
	}
	text := strings.SplitN(line, blank, 3)[2]
	*file = append(append(*file, text...), end...)
	return okay
}

// bare FILE, clear FILE: its last line's end, or all of it, goes.
func (s *Shell) cut(verb string, words []string) string {
	if len(words) != 1 {
		return what
	}
	file, ok := s.file(words[0])
	if !ok {
		return what
	}
	if verb == "clear" {
		*file = nil
		return okay
	}
	last := len(*file) - 1
	if last < 0 || (*file)[last] != end[0] {
		return what
	}
	*file = (*file)[:last]
	return okay
}

// style N, width N, favour N: any N is taken; a merge tells which can't be.
func (s *Shell) set(verb string, words []string) string {
	if len(words) != 1 {
		return what
	}
	n, ok := number(words[0])
	if !ok {
		return what
	}
	switch verb {
	case "style":
		s.options.Style = n
	case "width":
		s.options.Width = n
	default:
		s.options.Favour = n
	}
	return okay
}

// labels L B R
func (s *Shell) label(words []string) string {
	if len(words) != 3 {
		return what
	}
	s.options.LeftLabel = labelOf(words[0])
	s.options.BaseLabel = labelOf(words[1])
	s.options.RightLabel = labelOf(words[2])
	return okay
}

func labelOf(word string) string {
	if word == "-" {
		return ""
	}
	return word
}

// merge
func (s *Shell) merge(words []string) string {
	if len(words) != 0 {
		return what
	}
	r, e := merge.Texts(string(s.texts[0]), string(s.texts[1]), string(s.texts[2]), s.options)
	if e != api.OK {
		return e.Word()
	}
	s.merged = &merged{doc: r.Doc, text: r.Text, width: r.Width, chunks: r.Chunks}
	return strconv.Itoa(r.Count)
}

// text, wide, chunks, show
func (s *Shell) tell(verb string, words []string) string {
	if len(words) != 0 {
		return what
	}
	if s.merged == nil {
		return noDoc
	}
	switch verb {
	case "text":
		return told(s.merged.text)
	case "wide":
		return strconv.Itoa(s.merged.width)
	case "chunks":
		return toldChunks(s.merged.chunks)
	default:
		return reply(mark.Print(s.merged.doc, s.merged.width))
	}
}

// reply answers a text that is told, or an error's word.
func reply(text string, e api.Errno) string {
	if e != api.OK {
		return e.Word()
	}
	return told(text)
}

func toldChunks(l []chunk.Chunk) string {
	if len(l) == 0 {
		return none
	}
	var all []string
	for _, c := range l {
		words := []string{"c"}
		if c.Stable {
			words[0] = "s"
		}
		for _, span := range [files]chunk.Span{c.Base, c.Left, c.Right} {
			words = append(words, strconv.Itoa(span.From), strconv.Itoa(span.To))
		}
		all = append(all, strings.Join(words, blank))
	}
	return strings.Join(all, semicolon)
}

// resolve SIDE
func (s *Shell) resolve(words []string) string {
	if len(words) != 1 {
		return what
	}
	from, ok := side(words[0])
	if !ok {
		return what
	}
	if s.merged == nil {
		return noDoc
	}
	return reply(resolve.All(s.merged.doc, from))
}

// pick N SIDE: the text, the width and the chunks stay those of the merge.
func (s *Shell) pick(words []string) string {
	if len(words) != 2 {
		return what
	}
	n, isNumber := number(words[0])
	from, isSide := side(words[1])
	if !isNumber || !isSide {
		return what
	}
	if s.merged == nil {
		return noDoc
	}
	d, e := resolve.One(s.merged.doc, n, from)
	if e != api.OK {
		return e.Word()
	}
	s.merged.doc = d
	return strconv.Itoa(d.Conflicts())
}

// diff FILE N
func (s *Shell) diff(words []string) string {
	const mostAround = 100
	if len(words) != 2 {
		return what
	}
	file, isFile := s.file(words[0])
	around, isNumber := number(words[1])
	if !isFile || !isNumber || around > mostAround {
		return what
	}
	from, to := lines.Split(string(s.texts[0])), lines.Split(string(*file))
	numbers := lines.Number(from, to)
	script, e := edit.Of(from, to, lcs.Match(numbers[0], numbers[1]))
	return reply(patch.Text(patch.Of(script, around)), e)
}

// parse N
func (s *Shell) parse(words []string) string {
	if len(words) != 1 {
		return what
	}
	width, ok := number(words[0])
	if !ok {
		return what
	}
	text := string(s.texts[0])
	d, e, line := parse.Text(text, width)
	if e != api.OK {
		return e.Word() + blank + strconv.Itoa(line)
	}
	s.merged = &merged{doc: d, text: text, width: width}
	return strconv.Itoa(d.Conflicts())
}
