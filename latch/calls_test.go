package latch_test

import (
	"math/rand"
	"testing"

	"thole/api"
)

// This file holds the calls, each one done alone.

// Calls, in short; toPass is one that doesn't wait.
var (
	toPass  = api.Op{Kind: api.OpAwait}
	toAwait = api.Op{Kind: api.OpAwait, Wait: api.Forever}
	toBreak = api.Op{Kind: api.OpAwait, Wait: api.Forever, Breaks: true}
	toDown  = api.Op{Kind: api.OpDown}
)

// passed is what is marked by whoever finds it open; quits by whoever gives up.
var passed, quits = note(api.MkTake, 0), note(api.MkQuit, 0)

// The chapter's example: a count of 1: op.down, op.await: 0 and 0.
func TestDownAndAwait(t *testing.T) {
	d := opens(t, 1)
	d.Is(d.Calls(0, toDown), 0, note(api.MkDown, 1))
	d.Is(d.Calls(0, toAwait), 0, passed)
	d.at(0)
	d.held()
}

// P15.3: behind as many downs as its count, and more, it is open, for all threads and again; ahead of that it isn't.
func TestOpenBehindDowns(t *testing.T) {
	for _, count := range []int64{0, 1, 2, 3, 9, api.MaxCount} {
		d := opens(t, count)
		for n := range count {
			d.Is(d.Calls(int(n%2), toPass), api.Late, quits)
			if d.Is(d.Calls(int(n%5), toDown), api.Good, note(api.MkDown, 1)); t.Failed() {
				t.FailNow()
			}
			d.at(count - n - 1)
		}
		for i := range api.MaxThreads {
			d.Is(d.Calls(i, toAwait), api.Good, passed)
			d.Is(d.Calls(i, toDown), api.Good, note(api.MkDown, 0))
			d.Is(d.Calls(i, toPass), api.Good, passed)
			d.at(0)
		}
		if count < api.MaxCount {
			d.held()
		}
	}
}

// A count of 0: whoever awaits goes on at once, whatever its deadline is and whether an interrupt ends it; an interrupt stays.
func TestOpenAtOnce(t *testing.T) {
	for _, wait := range []int64{api.Forever, 0, 1, api.MaxWait} {
		for _, breaks := range []bool{false, true} {
			d := opens(t, 0)
			d.Fine(d.P.Tick(17))
			o := api.Op{Kind: api.OpAwait, Wait: wait, Breaks: breaks}
			d.Is(d.Calls(6, o), api.Good, passed)
			d.Interrupts(6)
			d.Is(d.Calls(6, o), api.Good, passed)
			if was, err := d.P.Clear(6); !was || err != nil {
				t.Errorf("the interrupt is gone: %v", err)
			}
			d.held()
		}
	}
}

// A count above 0: a Quit, and Late; or Broken, if it was interrupted, even where its time is over. The count stays.
func TestNotOpen(t *testing.T) {
	for _, count := range counts[1:] {
		d := opens(t, count)
		d.Is(d.Calls(4, toPass), api.Late, quits)
		d.Is(d.Calls(4, api.Op{Kind: api.OpAwait, Breaks: true}), api.Late, quits)
		d.Interrupts(4)
		d.Is(d.Calls(4, toBreak), api.Broken, quits)
		d.Interrupts(4)
		d.Is(d.Calls(4, api.Op{Kind: api.OpAwait, Breaks: true}), api.Broken, quits)
		d.Fine(d.P.Tick(api.MaxWait))
		d.Is(d.Calls(5, toPass), api.Late, quits)
		d.at(count)
		d.held()
	}
}

// A deadline that was due long ago is due; of an open Latch it doesn't matter.
func TestDueLongAgo(t *testing.T) {
	for _, until := range []int64{0, 1, 8, 9} {
		d := opens(t, 1)
		d.Fine(d.P.Tick(9))
		d.Is(d.CallsUntil(0, toPass, until), api.Late, quits)
		d.Calls(0, toDown)
		d.Is(d.CallsUntil(0, toPass, until), api.Good, passed)
	}
}

// Several that wait when it comes to 0: the first one is unparked, and each lets the next one go on. Downs ahead of that let nobody go on.
func TestSeveralThatWait(t *testing.T) {
	d, l := opens(t, 3), []int{5, 1, 7, 2, 0}
	for _, i := range l {
		d.Is(d.Calls(i, toAwait), parked)
	}
	for count := int64(2); count > 0; count-- {
		d.Is(d.Calls(4, toDown), api.Good, note(api.MkDown, 1))
		d.at(count)
		d.Parks(l...)
		d.stillParks(l...)
	}
	d.Is(d.Calls(4, toDown), api.Good, note(api.MkDown, 1))
	d.at(0)
	d.Parks(l[1:]...)
	for k, i := range l {
		d.Is(d.Goes(i), api.Good, passed)
		d.Parks(l[min(k+2, len(l)):]...)
	}
	d.Is(d.Calls(5, toAwait), api.Good, passed)
	d.held()
}

// Whoever comes when it is open needn't wait for those that stand in its queue yet; a down of it leaves them be.
func TestByTheWay(t *testing.T) {
	d := opens(t, 1)
	d.Is(d.Calls(1, toAwait), parked)
	d.Is(d.Calls(2, toAwait), parked)
	d.Is(d.Calls(0, toDown), api.Good, note(api.MkDown, 1))
	d.Is(d.Calls(3, toPass), api.Good, passed)
	d.Is(d.Calls(3, toDown), api.Good, note(api.MkDown, 0))
	d.at(0)
	d.Is(d.Goes(1), api.Good, passed)
	d.Is(d.Goes(2), api.Good, passed)
	d.Parks()
	d.held()
}

// Of several that wait some give up, the first one and the last one among them: the others go on when it comes to 0.
func TestSomeGiveUp(t *testing.T) {
	d := opens(t, 1)
	for i, o := range []api.Op{{Kind: api.OpAwait, Wait: 5}, toAwait, toBreak, toAwait, {Kind: api.OpAwait, Wait: 5}} {
		d.Is(d.Calls(i, o), parked)
	}
	d.Fine(d.P.Tick(4))
	d.Parks(0, 1, 2, 3, 4)
	d.Fine(d.P.Tick(1))
	d.Is(d.Goes(0), api.Late, quits)
	d.Is(d.Goes(4), api.Late, quits)
	d.Interrupts(2)
	d.Is(d.Goes(2), api.Broken, quits)
	d.stillParks(1, 3)
	d.Is(d.Calls(0, toDown), api.Good, note(api.MkDown, 1))
	d.Is(d.Goes(1), api.Good, passed)
	d.Is(d.Goes(3), api.Good, passed)
	d.Parks()
	d.held()
}

// An interrupt of one that waits, and doesn't break, is put off: it parks again, and has its flag behind the call.
func TestPutOff(t *testing.T) {
	d := opens(t, 1)
	d.Is(d.Calls(6, toAwait), parked)
	d.Interrupts(6)
	d.Is(d.Goes(6), parked)
	d.Is(d.Calls(0, toDown), api.Good, note(api.MkDown, 1))
	d.Is(d.Goes(6), api.Good, passed)
	if was, err := d.P.Clear(6); !was || err != nil {
		t.Errorf("the interrupt is gone: %v", err)
	}
	d.held()
}

// P15.2: rows of calls by chance, of several threads, one call behind the other.
func TestRowsOfCalls(t *testing.T) {
	r, results := rand.New(rand.NewSource(15)), map[int64]int{}
	for range 600 {
		d, threads := opens(t, int64(r.Intn(8))), 1+r.Intn(4)
		for range 14 {
			i := r.Intn(threads)
			o := []api.Op{toPass, toAwait, toBreak, toDown, toDown, toDown}[r.Intn(6)]
			want, then := comes(d.count(), o)
			if want.V == api.Broken {
				d.Interrupts(i)
			}
			results[want.V]++
			d.Is(d.Calls(i, o), want.V, want.Marks...)
			d.at(then)
			d.Fine(d.P.Tick(r.Int63n(3)))
			if want.V == parked {
				break
			}
		}
		d.held()
	}
	for _, v := range []int64{api.Good, api.Broken, api.Late, parked} {
		if results[v] < 50 {
			t.Errorf("%d calls that came to %d tell too little", results[v], v)
		}
	}
}

// comes is what a call comes to, of that count, and what the count is then. One that breaks is interrupted, where it would wait.
func comes(count int64, o api.Op) (came, int64) {
	switch {
	case o.Kind == api.OpDown:
		x, then := downed(count)
		return came{V: api.Good, Marks: x.Marks}, then
	case count == 0:
		return came{V: api.Good, Marks: tried(0).Marks}, 0
	case o.Breaks:
		return came{V: api.Broken, Marks: []api.Note{quits}}, count
	case o.Wait == 0:
		return came{V: api.Late, Marks: []api.Note{quits}}, count
	}
	return came{V: parked}, count
}
