package lcs

import (
	"slices"

	"tripartite/trim"
)

// A finder gathers the Pairs of two lists. It holds both the other way round,
// too, so that one walk serves from both ends, and the memory of the two walks.
type finder struct {
	a, b                []int
	turnedA, turnedB    []int
	forthRoom, backRoom []int
	pairs               []Pair
}

// search answers a longest matching.
func search(a, b []int) []Pair {
	room := len(a) + len(b) + 3
	f := &finder{
		a: a, b: b,
		turnedA: turned(a), turnedB: turned(b),
		forthRoom: make([]int, room), backRoom: make([]int, room),
	}
	f.find(0, len(a), 0, len(b))
	return f.pairs
}

func turned(l []int) []int {
	l = slices.Clone(l)
	slices.Reverse(l)
	return l
}

// find gathers the Pairs of a from fromA up to toA, and of b likewise: what
// both have in common at their ends, and what is on both sides of a place
// between, through which a shortest way goes.
func (f *finder) find(fromA, toA, fromB, toB int) {
	ahead, behind := trim.Ends(f.a[fromA:toA], f.b[fromB:toB])
	f.add(fromA, fromB, ahead)
	fromA, fromB = fromA+ahead, fromB+ahead
	toA, toB = toA-behind, toB-behind
	if fromA < toA && fromB < toB {
		x, y := f.middle(fromA, toA, fromB, toB)
		f.find(fromA, fromA+x, fromB, fromB+y)
		f.find(fromA+x, toA, fromB+y, toB)
	}
	f.add(toA, toB, behind)
}

// add gathers n Pairs, one behind the other.
func (f *finder) add(a, b, n int) {
	for i := range n {
		f.pairs = append(f.pairs, Pair{a + i, b + i})
	}
}

// middle answers a place through which a shortest way goes, from the beginning
// of both lists to their ends: it steps over one item of one list, or over two
// that are the same, and is the shorter, the fewer single items it steps over.
// The ways from both ends grow in turn, by one single item each time, and the
// first place where two of them meet halves the items that are stepped over.
func (f *finder) middle(fromA, toA, fromB, toB int) (int, int) {
	n, m := toA-fromA, toB-fromB
	forth := newWalk(f.a[fromA:toA], f.b[fromB:toB], f.forthRoom)
	back := newWalk(f.turnedA[len(f.a)-toA:len(f.a)-fromA], f.turnedB[len(f.b)-toB:len(f.b)-fromB], f.backRoom)
	odd := (n-m)%2 != 0
	for d := 0; ; d++ {
		low, high := diagonals(d, n, m)
		for k := low; k <= high; k += 2 {
			if x := forth.advance(k); odd && x+back.reached(n-m-k) >= n {
				return x, x - k
			}
		}
		for k := low; k <= high; k += 2 {
			if x := back.advance(k); !odd && x+forth.reached(n-m-k) >= n {
				return n - x, m - (x - k)
			}
		}
	}
}

// diagonals answers the first and the last of those that ways with d single
// items may end on; every second one is of them.
func diagonals(d, n, m int) (int, int) {
	low, high := -d, d
	if d > m {
		low = -m + (d-m)%2
	}
	if d > n {
		high = n - (d-n)%2
	}
	return low, high
}

// A walk knows how far the ways from the beginning of both lists come: on the
// diagonal k, where the place in a is k more than that in b, up to a place in a.
type walk struct {
	a, b []int
	far  []int
}

func newWalk(a, b, room []int) walk {
	far := room[:len(a)+len(b)+3]
	for i := range far {
		far[i] = -1
	}
	return walk{a, b, far}
}

// reached answers how far the ways have come on the diagonal k (-1: not there).
func (w walk) reached(k int) int {
	return w.far[k+len(w.b)+1]
}

// advance lets the ways on the diagonals beside k step over one item more, onto
// k, and from there over all that are the same. What can be reached on a
// diagonal, all ahead of it can be, too: so a way at a list's end is no hurdle,
// it is taken from a place ahead of it.
func (w walk) advance(k int) int {
	x := max(w.reached(k-1)+1, w.reached(k+1))
	x = min(x, len(w.a), len(w.b)+k)
	for x < len(w.a) && x-k < len(w.b) && w.a[x] == w.b[x-k] {
		x++
	}
	w.far[k+len(w.b)+1] = x
	return x
}
