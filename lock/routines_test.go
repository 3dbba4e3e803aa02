package lock_test

import (
	"testing"

	"thole/api"
)

// This file holds the routines, each one done alone, against what the chapter's table has.

// one is the thread that does them.
const one = 3

// all are ways for a Lock to stand: of nobody, of the thread's own, of others'.
func all() []stand {
	l := []stand{{}}
	for _, owner := range []int64{one + 1, 1, 3, 5, api.MaxThreads} {
		for _, holds := range []int64{1, 2, 3, 500, api.MaxCount - 1, api.MaxCount} {
			l = append(l, stand{owner, holds})
		}
	}
	return l
}

// tried is what a try comes to, if nobody stands in the queue, and how the Lock stands then.
func tried(x stand, thread int, holds int64) (came, stand) {
	own := int64(thread + 1)
	switch {
	case x.owner == 0:
		return came{V: 1, Marks: []api.Note{note(api.MkTake, holds)}}, stand{own, holds}
	case x.owner != own:
		return came{V: 0}, x
	case x.holds == api.MaxCount:
		return came{V: 2, Marks: []api.Note{note(api.MkOver, 0)}}, x
	}
	return came{V: 1, Marks: []api.Note{note(api.MkTake, 1)}}, stand{own, x.holds + 1}
}

// freed is what lock.free comes to, and how the Lock stands then.
func freed(x stand, thread int) (came, stand) {
	done := []api.Note{note(api.MkFree, 0)}
	switch {
	case x.owner != int64(thread+1):
		return came{V: 2, Marks: []api.Note{note(api.MkMonitor, 0)}}, x
	case x.holds == 1:
		return came{V: 1, Marks: done}, stand{}
	}
	return came{V: 0, Marks: done}, stand{x.owner, x.holds - 1}
}

// P13.2: try, and tryfair of one in whose queue is nobody, or none but those that gave up.
func TestTries(t *testing.T) {
	for _, x := range all() {
		for _, holds := range []int64{1, 2, 7, api.MaxCount} {
			for _, name := range []string{"lock.try", "lock.tryfair"} {
				for gaveUp := range 3 {
					d := opens(t, name == "lock.tryfair")
					for range gaveUp {
						d.Stood(one-1, true)
					}
					d.sets(x)
					want, then := tried(x, one, holds)
					before := d.All()
					d.Is(d.Does(one, name, d.Object, holds), want.V, want.Marks...)
					d.at(then)
					d.Only(before, 2, 3)
				}
			}
		}
	}
}

// P13.2: with others in the queue try has what is nobody's, and tryfair hasn't; with oneself as the first one tryfair has it, too. One's own is had once more by both.
func TestTriesWithOthersInTheQueue(t *testing.T) {
	for _, x := range all() {
		for _, q := range []struct {
			threads []int
			ahead   bool // another one is the first
		}{{[]int{one}, false}, {[]int{one, 0}, false}, {[]int{0}, true}, {[]int{7, one}, true}, {[]int{5, 0, 6}, true}} {
			for _, name := range []string{"lock.try", "lock.tryfair"} {
				d := opens(t, name == "lock.tryfair")
				for _, thread := range q.threads {
					d.Stood(0, true)
					d.Stood(thread, false)
				}
				d.sets(x)
				want, then := tried(x, one, 4)
				if q.ahead && x.owner == 0 && name == "lock.tryfair" {
					want, then = came{}, x
				}
				before := d.All()
				d.Is(d.Does(one, name, d.Object, 4), want.V, want.Marks...)
				d.at(then)
				d.Only(before, 2, 3)
			}
		}
	}
}

// P13.2: free.
func TestFree(t *testing.T) {
	for _, x := range all() {
		for _, fair := range []bool{false, true} {
			d := opens(t, fair)
			d.sets(x)
			want, then := freed(x, one)
			before := d.All()
			d.Is(d.Does(one, "lock.free", d.Object), want.V, want.Marks...)
			d.at(then)
			d.Only(before, 2, 3)
		}
	}
}

// Each thread has holds of its own: what one took no other one has once more, or frees.
func TestEachThread(t *testing.T) {
	for i := range api.MaxThreads {
		for k := range api.MaxThreads {
			d := opens(t, false)
			d.Is(d.Does(i, "lock.try", d.Object, 2), 1, note(api.MkTake, 2))
			want, then := tried(stand{int64(i + 1), 2}, k, 1)
			d.Is(d.Does(k, "lock.try", d.Object, 1), want.V, want.Marks...)
			d.at(then)
			want, then = freed(then, k)
			d.Is(d.Does(k, "lock.free", d.Object), want.V, want.Marks...)
			d.at(then)
		}
	}
}
