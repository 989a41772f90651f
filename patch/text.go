package patch

import (
	"strconv"
	"strings"

	"tripartite/api"
	"tripartite/edit"
	"tripartite/lines"
)

// What the lines of a patch's text are told by: signs holds the first byte of
// a line of each kind of Step, in their order.
const (
	signs    = " -+"
	opening  = "%% -"
	between  = " +"
	closing  = " %%\n"
	comma    = ","
	noEnding = "\\ no end\n"
)

// Text answers a patch in words.
func Text(l []Hunk) string {
	if !Right(l) {
		return ""
	}
	var words strings.Builder
	for _, h := range l {
		words.WriteString(head(h))
		for _, s := range h.Steps {
			for _, line := range s.Texts {
				words.WriteByte(signs[s.Kind])
				words.WriteString(line)
				if !strings.HasSuffix(line, end) {
					words.WriteString(end + noEnding)
				}
			}
		}
	}
	return words.String()
}

// head answers the line that tells where a Hunk stands.
func head(h Hunk) string {
	kept, dropped, added := edit.Counts(h.Steps)
	return opening + place(h.A, kept+dropped) + between + place(h.B, kept+added) + closing
}

func place(at, n int) string {
	return strconv.Itoa(at+1) + comma + strconv.Itoa(n)
}

// Parse answers the patch whose Text s is. It reads more than can be, and then
// holds what it has read against s.
func Parse(s string) ([]Hunk, api.Errno) {
	var l []Hunk
	for _, line := range lines.Split(s) {
		var ok bool
		if strings.HasPrefix(line, opening) {
			var h Hunk
			h, ok = readHead(line)
			l = append(l, h)
		} else {
			ok = readLine(l, line)
		}
		if !ok {
			return nil, api.ErrForm
		}
	}
	if !Right(l) || Text(l) != s {
		return nil, api.ErrForm
	}
	return l, api.OK
}

// readHead answers a Hunk without Steps. How many lines it has is not read: it
// is told by the lines themselves.
func readHead(line string) (Hunk, bool) {
	inner := strings.TrimSuffix(strings.TrimPrefix(line, opening), closing)
	a, b, ok := strings.Cut(inner, between)
	atA, _, okA := strings.Cut(a, comma)
	atB, _, okB := strings.Cut(b, comma)
	if !ok || !okA || !okB {
		return Hunk{}, false
	}
	numberA, errA := strconv.Atoi(atA)
	numberB, errB := strconv.Atoi(atB)
	return Hunk{A: numberA - 1, B: numberB - 1}, errA == nil && errB == nil
}

// readLine puts a line behind those of the last Hunk, or takes the last one's end.
func readLine(l []Hunk, line string) bool {
	if len(l) == 0 {
		return false
	}
	h := &l[len(l)-1]
	if line == noEnding {
		return dropEnd(h.Steps)
	}
	kind := strings.IndexByte(signs, line[0])
	if kind < 0 {
		return false
	}
	last := len(h.Steps) - 1
	if last < 0 || h.Steps[last].Kind != kind {
		h.Steps = append(h.Steps, edit.Step{Kind: kind})
		last++
	}
	h.Steps[last].Texts = append(h.Steps[last].Texts, line[1:])
	return true
}

// dropEnd takes the end of the last line of some Steps.
func dropEnd(l []edit.Step) bool {
	if len(l) == 0 {
		return false
	}
	texts := l[len(l)-1].Texts
	texts[len(texts)-1] = strings.TrimSuffix(texts[len(texts)-1], end)
	return true
}
