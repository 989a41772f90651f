package trim_test

import (
	"math"
	"slices"
	"testing"

	"tripartite/sample"
	"tripartite/trim"
)

// P2.1: the examples of the document, and what stands at the edges.
func TestEnds(t *testing.T) {
	for i, c := range []struct {
		a, b string
		n, m int
	}{
		{"", "", 0, 0},
		{"", "a", 0, 0},
		{"123", "13", 1, 1},
		{"11", "1", 1, 0},
		{"1", "11", 1, 0},
		{"abc", "abc", 3, 0},
		{"abcd", "xbcd", 0, 3},
		{"aba", "aa", 1, 1},
		{"aaxaa", "aaa", 2, 1},
		{"ab", "cd", 0, 0},
	} {
		if n, m := trim.Ends([]byte(c.a), []byte(c.b)); n != c.n || m != c.m {
			t.Error(i, n, m)
		}
	}
}

// P2.1: of all short lists: what is counted is the same, no more is, and it doesn't overlap.
func TestEndsOfAll(t *testing.T) {
	lists := sample.Lists(5, 1, 2, 3)
	for _, a := range lists {
		for _, b := range lists {
			n, m := trim.Ends(a, b)
			least := min(len(a), len(b))
			if n+m > least || !slices.Equal(a[:n], b[:n]) || !slices.Equal(a[len(a)-m:], b[len(b)-m:]) {
				t.Fatal(a, b, n, m)
			}
			if n < least && a[n] == b[n] {
				t.Fatal(a, b, n, m, "more at the beginning")
			}
			if n+m < least && a[len(a)-1-m] == b[len(b)-1-m] {
				t.Fatal(a, b, n, m, "more at the end")
			}
		}
	}
}

// P2.1: Same is told of all short lists.
func TestSame(t *testing.T) {
	lists := sample.Lists(4, 1, 2)
	for _, a := range lists {
		for _, b := range lists {
			if trim.Same(a, b) != slices.Equal(a, b) {
				t.Fatal(a, b)
			}
		}
	}
	if !trim.Same(nil, []int{}) {
		t.Error("nil and empty lists are one")
	}
}

// P2.1: lists of whatever may be compared.
func TestOfAnyKind(t *testing.T) {
	type place struct{ x, y int }
	if n, m := trim.Ends([]place{{1, 2}, {3, 4}}, []place{{1, 2}, {5, 6}, {3, 4}}); n != 1 || m != 1 {
		t.Error(n, m)
	}
	if !trim.Same([][2]string{{"a", "b"}}, [][2]string{{"a", "b"}}) || trim.Same([]string{"a"}, []string{"b"}) {
		t.Error("arrays and strings")
	}
	if not := []float64{math.NaN()}; trim.Same(not, not) {
		t.Error("what isn't the same as itself")
	}
}

// P1: no call panics, not even where what an interface holds can't be compared: that is unlike.
func TestWhatCannotBeCompared(t *testing.T) {
	l := []any{1, []int{2}, 3}
	if n, m := trim.Ends(l, l); n != 1 || m != 1 {
		t.Error(n, m)
	}
	if trim.Same(l, l) || !trim.Same(l[:1], l[:1]) {
		t.Error("same")
	}
}

// What is handed in stays as it is, its spare room too.
func TestHandedInIsKept(t *testing.T) {
	a, keptA := sample.Guard([]int{1, 2, 3}, 9)
	b, keptB := sample.Guard([]int{1, 3}, 9)
	trim.Ends(a, b)
	trim.Same(a, b)
	if !keptA() || !keptB() {
		t.Error(a, b)
	}
}
