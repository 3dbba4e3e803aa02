package sema_test

import (
	"testing"

	"thole/api"
)

// This file holds the routines, each one done alone, against what the chapter's table has.

// one is the thread that does them.
const one = 3

// counts are how many permits there are, and how many are asked for or given.
var counts = []int64{0, 1, 2, 3, 7, 499, 500, 501, api.MaxCount - 1, api.MaxCount}

// tried is what a try of so many comes to, if nobody stands in the queue, and how many there are then.
func tried(permits, n int64) (came, int64) {
	if n > permits {
		return came{}, permits
	}
	return came{V: 1, More: permits - n, Marks: []api.Note{note(api.MkTake, n)}}, permits - n
}

// freed is what sema.free of so many comes to, and how many there are then.
func freed(permits, n int64) (came, int64) {
	if permits+n > api.MaxCount {
		return came{V: 2, Marks: []api.Note{note(api.MkOver, n)}}, permits
	}
	return came{V: 1, Marks: []api.Note{note(api.MkFree, n)}}, permits + n
}

// routine does a routine, which may change the state alone, and holds what comes of it against what it should come to.
func (d semaDesk) routine(name string, arg int64, want came, then int64) {
	d.t.Helper()
	before := d.All()
	x := d.Does(one, name, d.Object, arg)
	d.Is(x, want.V, want.Marks...)
	if want.More > 0 && x.More != want.More {
		d.t.Errorf("%s of %d tells that %d are left; want %d", name, arg, x.More, want.More)
	}
	d.at(then)
	d.Only(before, 2)
}

// P14.2: try, and tryfair of one in whose queue is nobody, or none but those that gave up.
func TestTries(t *testing.T) {
	for _, permits := range counts {
		for _, n := range append(counts[1:], permits+1, api.MaxCount+1) {
			for _, name := range []string{"sema.try", "sema.tryfair"} {
				for gaveUp := range 3 {
					d := opens(t, name == "sema.tryfair", permits)
					for range gaveUp {
						d.Stood(one-1, true)
					}
					want, then := tried(permits, n)
					d.routine(name, -n, want, then)
				}
			}
		}
	}
}

// None are left: that, too, is told.
func TestNoneLeft(t *testing.T) {
	for _, name := range []string{"sema.try", "sema.tryfair"} {
		d := opens(t, false, 5)
		if x := d.Does(one, name, d.Object, -5); x.V != 1 || x.More != 0 {
			t.Errorf("%s of all answers %d, %d; want 1, 0", name, x.V, x.More)
		}
	}
}

// P14.2: with others in the queue try takes what is there, and tryfair doesn't; with oneself as the first one tryfair does, too.
func TestTriesWithOthersInTheQueue(t *testing.T) {
	for _, permits := range counts {
		for _, q := range []struct {
			threads []int
			ahead   bool // another one is the first
		}{{[]int{one}, false}, {[]int{one, 0}, false}, {[]int{0}, true}, {[]int{7, one}, true}, {[]int{5, 0, 6}, true}} {
			for _, name := range []string{"sema.try", "sema.tryfair"} {
				d := opens(t, name == "sema.tryfair", permits)
				for _, thread := range q.threads {
					d.Stood(0, true)
					d.Stood(thread, false)
				}
				want, then := tried(permits, 2)
				if q.ahead && name == "sema.tryfair" {
					want, then = came{}, permits
				}
				d.routine(name, -2, want, then)
			}
		}
	}
}

// P14.2: free.
func TestFree(t *testing.T) {
	for _, permits := range counts {
		for _, n := range append(counts[1:], api.MaxCount-permits+1, api.MaxCount+1) {
			want, then := freed(permits, n)
			opens(t, n%2 == 0, permits).routine("sema.free", n, want, then)
		}
		if n := api.MaxCount - permits; n > 0 {
			opens(t, false, permits).routine("sema.free", n, came{V: 1, Marks: []api.Note{note(api.MkFree, n)}}, api.MaxCount)
		}
	}
}

// P14.2: drain; whoever stands in the queue.
func TestDrain(t *testing.T) {
	for _, permits := range counts {
		for _, fair := range []bool{false, true} {
			d := opens(t, fair, permits)
			want := came{V: permits, Marks: []api.Note{note(api.MkDrain, permits)}}
			d.Stood(0, false)
			d.routine("sema.drain", -1, want, 0)
			d.routine("sema.drain", -1, came{Marks: []api.Note{note(api.MkDrain, 0)}}, 0)
		}
	}
}
