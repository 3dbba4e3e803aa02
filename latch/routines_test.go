package latch_test

import (
	"testing"

	"thole/api"
)

// This file holds the routines, each one done alone, against what the chapter's table has.

// one is the thread that does them.
const one = 3

// counts are what a Latch's count may be.
var counts = []int64{0, 1, 2, 3, 7, 499, 500, 501, api.MaxCount - 1, api.MaxCount}

// tried is what a try comes to.
func tried(count int64) came {
	if count > 0 {
		return came{}
	}
	return came{V: 1, Marks: []api.Note{note(api.MkTake, 0)}}
}

// downed is what latch.down comes to, and what the count is then.
func downed(count int64) (came, int64) {
	switch count {
	case 0:
		return came{Marks: []api.Note{note(api.MkDown, 0)}}, 0
	case 1:
		return came{V: 1, Marks: []api.Note{note(api.MkDown, 1)}}, 0
	}
	return came{Marks: []api.Note{note(api.MkDown, 1)}}, count - 1
}

// queues are some that a Latch may have: threads, and those that gave up (-1).
var queues = [][]int{{}, {-1}, {-1, -1}, {one}, {0}, {7, one}, {one, -1, 5}, {-1, 5, -1, 0, 6}}

// opensWith is a desk of a Latch with that queue.
func opensWith(t *testing.T, count int64, queue []int) latchDesk {
	t.Helper()
	d := opens(t, count)
	for _, i := range queue {
		d.Stood(max(i, 0), i < 0)
	}
	return d
}

// P15.2: try: only of a count of 0, whoever stands in the queue. Nothing is changed by it.
func TestTry(t *testing.T) {
	for _, count := range counts {
		for _, q := range queues {
			d := opensWith(t, count, q)
			want, before := tried(count), d.All()
			d.Is(d.Does(one, "latch.try", d.Object), want.V, want.Marks...)
			d.Is(d.Does(one, "latch.try", d.Object), want.V, want.Marks...)
			d.Only(before)
		}
	}
}

// A try is of the object alone: what else is asked for doesn't matter.
func TestTryOfTheObjectAlone(t *testing.T) {
	for _, asked := range []int64{-api.MaxCount, -1, 0, 1, api.MaxCount} {
		for count := range int64(3) {
			d, want := opens(t, count), tried(count)
			d.Is(d.Does(one, "latch.try", d.Object, asked, 1, 1, 1), want.V, want.Marks...)
		}
	}
}

// P15.2: down: one less, if it isn't 0; whoever stands in the queue. The state alone is changed by it, and nobody is unparked.
func TestDown(t *testing.T) {
	for _, count := range counts {
		for _, q := range queues {
			d := opensWith(t, count, q)
			if _, err := d.P.Park(5, api.Forever); err != nil {
				t.Fatal(err)
			}
			want, then := downed(count)
			before := d.All()
			d.Is(d.Does(one, "latch.down", d.Object), want.V, want.Marks...)
			d.at(then)
			d.Only(before, 2)
			d.Parks(5)
		}
	}
}

// From MaxCount on: each down tells of one less, the one that comes to 0 tells so, and those behind it tell of none.
func TestDownToNone(t *testing.T) {
	d := opens(t, api.MaxCount)
	for count := int64(api.MaxCount); count > -5; count-- {
		open := tried(max(count, 0))
		d.Is(d.Does(int(max(count, 0)%api.MaxThreads), "latch.try", d.Object), open.V, open.Marks...)
		want, then := downed(max(count, 0))
		d.Is(d.Does(one, "latch.down", d.Object), want.V, want.Marks...)
		d.at(then)
	}
}
