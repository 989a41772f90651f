package sample_test

import (
	"testing"

	"tripartite/sample"
)

func TestLists(t *testing.T) {
	if l := sample.Lists(2, 1, 2); len(l) != 7 || len(l[0]) != 0 || len(l[6]) != 2 || l[6][0] != 2 || l[5][1] != 1 {
		t.Error(l)
	}
}

func TestGuard(t *testing.T) {
	for at := range 4 {
		l, kept := sample.Guard([]int{1, 2}, 9)
		if len(l) != 2 || !kept() {
			t.Error(l)
		}
		if l[:4][at]++; kept() {
			t.Error(at, "a change wasn't told")
		}
	}
}
