package queue_test

import (
	"testing"

	"thole/cell"
)

// load is what a cell is.
func load(t *testing.T, a *cell.Arena, at int64) int64 {
	t.Helper()
	v, err := a.Load(at)
	if err != nil {
		t.Fatalf("the cell at %d: %v", at, err)
	}
	return v
}

// nodes are those of an object's queue behind the head, the first one first, by what is ahead of each.
func nodes(t *testing.T, a *cell.Arena, object int64) []int64 {
	t.Helper()
	l := []int64{}
	head := load(t, a, object)
	for at := load(t, a, object+1); at != head; at = load(t, a, at+1) {
		l = append([]int64{at}, l...)
		if len(l) > a.Len() {
			t.Fatalf("the queue of %d has no end: %v", object, l[:20])
		}
	}
	return l
}
