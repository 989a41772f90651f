package lcs_test

import (
	"math/rand"
	"slices"
	"testing"
	"time"

	"tripartite/lcs"
	"tripartite/sample"
)

// longest is how many Pairs a matching can have, by looking at all pairs of places.
func longest(a, b []int) int {
	row := make([]int, len(b)+1)
	for _, x := range a {
		corner := 0
		for j, y := range b {
			above := row[j+1]
			if x == y {
				row[j+1] = corner + 1
			} else {
				row[j+1] = max(above, row[j])
			}
			corner = above
		}
	}
	return row[len(b)]
}

func check(t *testing.T, a, b []int) {
	t.Helper()
	l := lcs.Match(a, b)
	want := longest(a, b)
	if !lcs.Right(a, b, l) || len(l) != want || lcs.Distance(a, b) != len(a)+len(b)-2*want {
		t.Fatal(a, b, l, "not", want)
	}
}

// P3.1: the example of the document.
func TestExample(t *testing.T) {
	a, b := []int{1, 2, 3}, []int{2, 3, 4}
	if l := lcs.Match(a, b); !slices.Equal(l, []lcs.Pair{{1, 0}, {2, 1}}) || lcs.Distance(a, b) != 2 {
		t.Error(l)
	}
}

// P3.1: what is a matching, and what isn't.
func TestRight(t *testing.T) {
	a, b := []int{1, 2, 1}, []int{1, 1, 2}
	for _, l := range [][]lcs.Pair{nil, {}, {{0, 0}}, {{0, 1}, {1, 2}}, {{0, 0}, {2, 1}}, {{2, 0}}} {
		if !lcs.Right(a, b, l) {
			t.Error(l, "isn't Right")
		}
	}
	for _, l := range [][]lcs.Pair{
		{{-1, 0}}, {{0, -1}}, {{3, 0}}, {{0, 3}}, {{1 << 62, 0}}, {{0, 1 << 62}},
		{{0, 2}}, {{1, 0}},
		{{0, 0}, {0, 1}}, {{0, 0}, {2, 0}}, {{0, 0}, {0, 0}},
		{{2, 1}, {0, 0}}, {{0, 1}, {2, 0}},
	} {
		if lcs.Right(a, b, l) {
			t.Error(l, "is Right")
		}
	}
	if !lcs.Right(nil, nil, nil) || lcs.Right(nil, nil, []lcs.Pair{{0, 0}}) {
		t.Error("empty lists")
	}
}

// P3.2: of all short lists no longer matching is there.
func TestMatchOfAll(t *testing.T) {
	lists := sample.Lists(6, 1, 2)
	lists = append(lists, sample.Lists(4, 3, 1, -5)...)
	for _, a := range lists {
		for _, b := range lists {
			check(t, a, b)
		}
	}
}

// P3.2: likewise of longer ones, with few and with many items that are alike.
func TestMatchOfLongLists(t *testing.T) {
	chance := rand.New(rand.NewSource(1))
	for i := range 600 {
		kinds := []int{1, 2, 3, 10, 60}[i%5]
		lists := [2][]int{}
		for side := range lists {
			for range chance.Intn(90) {
				lists[side] = append(lists[side], chance.Intn(kinds))
			}
		}
		check(t, lists[0], lists[1])
	}
}

// P3.2: likewise where one list is the other one with some changes.
func TestMatchOfChangedLists(t *testing.T) {
	chance := rand.New(rand.NewSource(2))
	for range 40 {
		var a, b []int
		for i := range 300 {
			item := chance.Intn(30)
			a = append(a, item)
			switch chance.Intn(12) {
			case 0:
				b = append(b, i)
			case 1:
			case 2:
				b = append(b, item, item)
			default:
				b = append(b, item)
			}
		}
		check(t, a, b)
		check(t, b, a)
	}
}

// P3.1: lists of some thousand places, of which some hundred lack a Pair, are done within a moment.
func TestLongLists(t *testing.T) {
	var a, b []int
	for i := range 9000 {
		item := i % 700
		a = append(a, item)
		if i%20 != 0 {
			b = append(b, item)
		}
		if i%25 == 0 {
			b = append(b, (item*7)%700)
		}
	}
	before := time.Now()
	l := lcs.Match(a, b)
	if !lcs.Right(a, b, l) || len(l) < 9000-450 {
		t.Error(len(l))
	}
	if took := time.Since(before); took > 5*time.Second {
		t.Error(took)
	}
}

// P3.1: lists that have nothing, or nothing in one order, in common end as well.
func TestUnlikeLists(t *testing.T) {
	var a, b, turned []int
	for i := range 3000 {
		a = append(a, i)
		b = append(b, -1-i)
		turned = append(turned, 2999-i)
	}
	if lcs.Distance(a, b) != 6000 || lcs.Distance(a, turned) != 5998 || lcs.Distance(a, nil) != 3000 || lcs.Distance(nil, nil) != 0 {
		t.Error("distance")
	}
	if len(lcs.Match(nil, nil)) != 0 || len(lcs.Match(nil, a)) != 0 || len(lcs.Match(a, a)) != 3000 {
		t.Error("match")
	}
}

// P3.1: which matching is chosen hangs on both lists alone.
func TestMatchIsOne(t *testing.T) {
	a, b := []int{1, 2, 3, 1, 2, 3, 2, 1}, []int{2, 1, 3, 2, 2, 1, 3}
	first := lcs.Match(a, b)
	for range 20 {
		lcs.Match(b, a)
		if !slices.Equal(lcs.Match(slices.Clone(a), slices.Clone(b)), first) {
			t.Fatal("another matching")
		}
	}
}

// P3.3: what is handed in stays as it is, its spare room too; answers are new memory.
func TestMemory(t *testing.T) {
	a, keptA := sample.Guard([]int{1, 2, 3, 4}, 9)
	b, keptB := sample.Guard([]int{2, 4, 1, 3}, 9)
	l, keptL := sample.Guard([]lcs.Pair{{1, 0}}, lcs.Pair{})
	one := lcs.Match(a, b)
	lcs.Right(a, b, l)
	lcs.Distance(a, b)
	if !keptA() || !keptB() || !keptL() {
		t.Error(a, b, l)
	}
	two := lcs.Match(a, b)
	was := slices.Clone(two)
	clear(one)
	clear(a)
	if !slices.Equal(two, was) {
		t.Error("two answers share memory")
	}
}
