package sema_test

import (
	"math/rand"
	"testing"

	"thole/api"
)

// This file holds the calls, each one done alone.

// toDrain takes all.
var toDrain = api.Op{Kind: api.OpDrain}

// toAcquire waits for so many as long as it takes; toTake asks for them without waiting.
func toAcquire(n int) api.Op { return api.Op{Kind: api.OpAcquire, N: n, Wait: api.Forever} }

func toTake(n int) api.Op { return api.Op{Kind: api.OpAcquire, N: n} }

// toBreak waits for so many till an interrupt ends it.
func toBreak(n int) api.Op {
	return api.Op{Kind: api.OpAcquire, N: n, Wait: api.Forever, Breaks: true}
}

func toTry(n int) api.Op { return api.Op{Kind: api.OpTrySome, N: n} }

func toRelease(n int) api.Op { return api.Op{Kind: api.OpRelease, N: n} }

// drained is what a drain of so many comes to.
func drained(n int64) int64 { return api.Good + 16*n }

// The chapter's example: 2 permits: op.drain: 32.
func TestDrainOfTwo(t *testing.T) {
	d := opens(t, false, 2)
	d.Is(d.Calls(0, toDrain), 32, note(api.MkDrain, 2))
	d.at(0)
	d.held()
}

// P14.3: what was acquired, and is released, is there again: whoever does so, and whatever the deadline is and whether an interrupt ends it.
func TestThereAgain(t *testing.T) {
	for _, fair := range []bool{false, true} {
		for _, wait := range []int64{api.Forever, 0, 1, api.MaxWait} {
			d := opens(t, fair, 7)
			d.Fine(d.P.Tick(17))
			d.Is(d.Calls(6, api.Op{Kind: api.OpAcquire, N: 3, Wait: wait, Breaks: true}), api.Good, note(api.MkTake, 3))
			d.at(4)
			d.Is(d.Calls(6, api.Op{Kind: api.OpAcquire, N: 4, Wait: wait}), api.Good, note(api.MkTake, 4))
			d.at(0)
			d.Is(d.Calls(2, toRelease(4)), api.Good, note(api.MkFree, 4))
			d.Is(d.Calls(2, toTry(4)), api.Good, note(api.MkTake, 4))
			d.Is(d.Calls(6, toRelease(4)), api.Good, note(api.MkFree, 4))
			d.Is(d.Calls(6, toRelease(3)), api.Good, note(api.MkFree, 3))
			d.at(7)
			d.held()
		}
	}
}

// Fewer permits than are asked for: a Quit, and Late; or Broken, if it was interrupted; of a try a Fail of so many, and Bad. Nothing is taken.
func TestFewer(t *testing.T) {
	for _, fair := range []bool{false, true} {
		for _, c := range []struct {
			permits int64
			n       int
		}{{0, 1}, {0, api.MaxCount}, {1, 2}, {4, 5}, {999, 1000}, {3, 1000}} {
			d := opens(t, fair, c.permits)
			d.Is(d.Calls(4, toTake(c.n)), api.Late, note(api.MkQuit, 0))
			d.Is(d.Calls(4, api.Op{Kind: api.OpAcquire, N: c.n, Breaks: true}), api.Late, note(api.MkQuit, 0))
			d.Is(d.Calls(4, toTry(c.n)), api.Bad, note(api.MkFail, int64(c.n)))
			d.Interrupts(4)
			d.Is(d.Calls(4, toBreak(c.n)), api.Broken, note(api.MkQuit, 0))
			d.Fine(d.P.Tick(api.MaxWait))
			d.Is(d.Calls(5, toTake(c.n)), api.Late, note(api.MkQuit, 0))
			d.at(c.permits)
			d.held()
		}
	}
}

// More than MaxCount: Over, and none come; as many as there may be do.
func TestOver(t *testing.T) {
	for _, c := range []struct {
		permits int64
		n       int
	}{{api.MaxCount, 1}, {1, api.MaxCount}, {api.MaxCount, api.MaxCount}, {600, 401}} {
		d := opens(t, false, c.permits)
		d.Is(d.Calls(0, toRelease(c.n)), api.Over, note(api.MkOver, int64(c.n)))
		d.at(c.permits)
		if c.permits < api.MaxCount {
			d.Is(d.Calls(0, toRelease(api.MaxCount-int(c.permits))), api.Good, note(api.MkFree, api.MaxCount-c.permits))
		}
		d.Is(d.Calls(0, toRelease(1)), api.Over, note(api.MkOver, 1))
		d.Is(d.Calls(0, toAcquire(api.MaxCount)), api.Good, note(api.MkTake, api.MaxCount))
		d.Is(d.Calls(0, toRelease(api.MaxCount)), api.Good, note(api.MkFree, api.MaxCount))
		d.at(api.MaxCount)
		d.held()
	}
}

// Whoever drains gets all; no permit to drain: Good, and 0.
func TestDrains(t *testing.T) {
	for _, permits := range counts {
		d := opens(t, permits%2 == 0, permits)
		d.Is(d.Calls(1, toDrain), drained(permits), note(api.MkDrain, permits))
		d.Is(d.Calls(1, toDrain), drained(0), note(api.MkDrain, 0))
		d.Is(d.Calls(0, toTry(1)), api.Bad, note(api.MkFail, 1))
		d.Is(d.Calls(0, toRelease(2)), api.Good, note(api.MkFree, 2))
		d.Is(d.Calls(5, toDrain), drained(2), note(api.MkDrain, 2))
		d.at(0)
		d.held()
	}
}

// stillParks wakes a thread, if it wasn't unparked by something, and tells a fault unless it parks again.
func (d semaDesk) stillParks(thread int) {
	d.t.Helper()
	d.Fine(d.P.Wake(thread))
	d.Is(d.Goes(thread), parked)
}

// A release while the first one that waits still lacks some: it parks again, those behind it too, and what is there stays.
func TestStillLacksSome(t *testing.T) {
	for _, fair := range []bool{false, true} {
		d := opens(t, fair, 1)
		d.Is(d.Calls(3, toAcquire(4)), parked)
		d.Is(d.Calls(6, toAcquire(4)), parked)
		for n := range int64(2) {
			d.Is(d.Calls(0, toRelease(1)), api.Good, note(api.MkFree, 1))
			d.stillParks(3)
			d.Parks(3, 6)
			d.at(n + 2)
		}
		d.Is(d.Calls(0, toRelease(1)), api.Good, note(api.MkFree, 1))
		d.Is(d.Goes(3), api.Good, note(api.MkTake, 4))
		d.at(0)
		if x := d.Calls(0, toRelease(4)); x.V != api.Good {
			t.Errorf("a release comes to %v", x)
		}
		d.Is(d.Goes(6), api.Good, note(api.MkTake, 4))
		d.Parks()
		d.held()
	}
}

// A release that is enough for several: each lets the next one go on, till one lacks some.
func TestEnoughForSeveral(t *testing.T) {
	for _, fair := range []bool{false, true} {
		d, l := opens(t, fair, 0), []int{5, 1, 7, 2}
		for _, i := range l {
			d.Is(d.Calls(i, toAcquire(2)), parked)
		}
		d.Is(d.Calls(0, toRelease(7)), api.Good, note(api.MkFree, 7))
		for _, i := range l[:3] {
			d.Is(d.Goes(i), api.Good, note(api.MkTake, 2))
		}
		d.stillParks(2)
		d.at(1)
		d.Is(d.Calls(0, toRelease(1)), api.Good, note(api.MkFree, 1))
		d.Is(d.Goes(2), api.Good, note(api.MkTake, 2))
		d.Parks()
		d.held()
	}
}

// A release that is Over lets nobody go on, for none come.
func TestOverLetsNobodyGoOn(t *testing.T) {
	d := opens(t, false, 2)
	d.Is(d.Calls(1, toAcquire(3)), parked)
	d.Is(d.Calls(0, toRelease(api.MaxCount)), api.Over, note(api.MkOver, api.MaxCount))
	d.stillParks(1)
	d.at(2)
	d.held()
}

// Permits that are there with another one in the queue, that lacks some: of a fair Sema an acquire is Late, for that one goes first; a try isn't Bad, for there are enough. Of one that isn't fair an acquire is Good.
func TestOthersInTheQueue(t *testing.T) {
	for _, c := range []struct {
		fair bool
		o    api.Op
		want int64
		mark api.Note
	}{
		{true, toTake(2), api.Late, note(api.MkQuit, 0)},
		{false, toTake(2), api.Good, note(api.MkTake, 2)},
		{true, toTry(2), api.Good, note(api.MkTake, 2)},
		{false, toTry(2), api.Good, note(api.MkTake, 2)},
		{true, toDrain, drained(2), note(api.MkDrain, 2)},
		{false, toDrain, drained(2), note(api.MkDrain, 2)},
	} {
		d := opens(t, c.fair, 2)
		d.Is(d.Calls(1, toAcquire(3)), parked)
		d.Is(d.Calls(2, c.o), c.want, c.mark)
		d.Is(d.Calls(0, toRelease(3)), api.Good, note(api.MkFree, 3))
		d.Is(d.Goes(1), api.Good, note(api.MkTake, 3))
		d.held()
	}
}

// A deadline that was due long ago is due.
func TestDueLongAgo(t *testing.T) {
	for _, until := range []int64{0, 1, 8, 9} {
		d := opens(t, until%2 == 0, 0)
		d.Fine(d.P.Tick(9))
		d.Is(d.CallsUntil(0, toTake(1), until), api.Late, note(api.MkQuit, 0))
	}
}

// P14.2: rows of calls by chance, of several threads, one call behind the other.
func TestRowsOfCalls(t *testing.T) {
	r, results := rand.New(rand.NewSource(14)), map[int64]int{}
	for range 600 {
		most := []int{4, 4, api.MaxCount}[r.Intn(3)]
		d, threads := opens(t, r.Intn(2) == 0, int64(r.Intn(most+1))), 1+r.Intn(4)
		for range 12 {
			i, n := r.Intn(threads), 1+r.Intn(most)
			o := []api.Op{toTake(n), toAcquire(n), toBreak(n), toTry(n), toRelease(n), toRelease(n), toDrain}[r.Intn(7)]
			want, then := comes(d.permits(), o)
			if want.V == api.Broken {
				d.Interrupts(i)
			}
			results[want.V%16]++
			d.Is(d.Calls(i, o), want.V, want.Marks...)
			d.at(then)
			d.Fine(d.P.Tick(r.Int63n(3)))
			if want.V == parked {
				break
			}
		}
		d.held()
	}
	for _, v := range []int64{api.Good, api.Bad, api.Broken, api.Late, api.Over, parked} {
		if results[v] < 50 {
			t.Errorf("%d calls that came to %d tell too little", results[v], v)
		}
	}
}

// comes is what a call comes to, of so many permits, and how many there are then. One that breaks is interrupted, where it would wait.
func comes(permits int64, o api.Op) (came, int64) {
	quit := []api.Note{note(api.MkQuit, 0)}
	switch n := int64(o.N); {
	case o.Kind == api.OpDrain:
		return came{V: drained(permits), Marks: []api.Note{note(api.MkDrain, permits)}}, 0
	case o.Kind == api.OpRelease:
		x, then := freed(permits, n)
		return came{V: []int64{0, api.Good, api.Over}[x.V], Marks: x.Marks}, then
	case n <= permits:
		x, then := tried(permits, n)
		return came{V: api.Good, Marks: x.Marks}, then
	case o.Kind == api.OpTrySome:
		return came{V: api.Bad, Marks: []api.Note{note(api.MkFail, n)}}, permits
	case o.Breaks:
		return came{V: api.Broken, Marks: quit}, permits
	case o.Wait == 0:
		return came{V: api.Late, Marks: quit}, permits
	}
	return came{V: parked}, permits
}
