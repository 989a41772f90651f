// Package lines is layer 1: texts as lines: see shared/doc/01-lines.md.
package lines

import "strings"

// end is what a line ends with; signs are what markers are made of.
const (
	end   = "\n"
	signs = "<|=>"
)

// Split answers a text's lines, each with its end.
func Split(s string) []string {
	l := strings.SplitAfter(s, end)
	if last := len(l) - 1; l[last] == "" {
		l = l[:last]
	}
	return l
}

// Join answers all of l, one behind the other.
func Join(l ...string) string {
	return strings.Join(l, "")
}

// Whole tells whether l might be a text's lines.
func Whole(l []string) bool {
	for i, line := range l {
		at := strings.Index(line, end)
		ended := at >= 0 && at == len(line)-1
		bare := at < 0 && line != "" && i == len(l)-1
		if !ended && !bare {
			return false
		}
	}
	return true
}

// Number gives each text of the files a number, from 0 on, where it is met first.
func Number(files ...[]string) [][]int {
	known := map[string]int{}
	all := make([][]int, 0, len(files))
	for _, file := range files {
		numbers := make([]int, 0, len(file))
		for _, line := range file {
			n, met := known[line]
			if !met {
				n = len(known)
				known[line] = n
			}
			numbers = append(numbers, n)
		}
		all = append(all, numbers)
	}
	return all
}

// Run answers how often a marker's sign stands at a line's beginning.
func Run(line string) int {
	if line == "" || strings.IndexByte(signs, line[0]) < 0 {
		return 0
	}
	n := 1
	for n < len(line) && line[n] == line[0] {
		n++
	}
	return n
}

// Longest answers the greatest Run of all texts of the files.
func Longest(files ...[]string) int {
	longest := 0
	for _, file := range files {
		for _, line := range file {
			longest = max(longest, Run(line))
		}
	}
	return longest
}
