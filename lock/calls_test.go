package lock_test

import (
	"math/rand"
	"testing"

	"thole/api"
)

// This file holds the calls, each one done alone.

// Calls, in short; toTake is one that doesn't wait.
var (
	toTake   = api.Op{Kind: api.OpLock}
	toLock   = api.Op{Kind: api.OpLock, Wait: api.Forever}
	toBreak  = api.Op{Kind: api.OpLock, Wait: api.Forever, Breaks: true}
	toTry    = api.Op{Kind: api.OpTry}
	toUnlock = api.Op{Kind: api.OpUnlock}
)

// The chapter's example: a Lock of nobody: op.lock, op.unlock: 0 and 0.
func TestLockAndUnlock(t *testing.T) {
	for _, fair := range []bool{false, true} {
		d := opens(t, fair)
		d.Is(d.Calls(0, toLock), api.Good, note(api.MkTake, 1))
		d.at(stand{1, 1})
		d.Is(d.Calls(0, toUnlock), api.Good, note(api.MkFree, 0))
		d.at(stand{})
		d.held()
	}
}

// P13.2: a lock of another thread's: to a Quit, and Late; or Broken, if it was interrupted; a try: Bad; an unlock: Monitor, of nobody's, too.
func TestOfAnother(t *testing.T) {
	for _, fair := range []bool{false, true} {
		d := opens(t, fair)
		d.Is(d.Calls(4, toUnlock), api.Monitor, note(api.MkMonitor, 0))
		d.Is(d.Calls(2, toLock), api.Good, note(api.MkTake, 1))
		d.Is(d.Calls(2, toLock), api.Good, note(api.MkTake, 1))
		d.Is(d.Calls(4, toTake), api.Late, note(api.MkQuit, 0))
		d.Is(d.Calls(4, api.Op{Kind: api.OpLock, Breaks: true}), api.Late, note(api.MkQuit, 0))
		d.Is(d.Calls(4, toTry), api.Bad, note(api.MkFail, 0))
		d.Is(d.Calls(4, toUnlock), api.Monitor, note(api.MkMonitor, 0))
		d.Interrupts(4)
		d.Is(d.Calls(4, toBreak), api.Broken, note(api.MkQuit, 0))
		d.Fine(d.P.Tick(api.MaxWait))
		d.Is(d.Calls(4, toTake), api.Late, note(api.MkQuit, 0))
		d.at(stand{3, 2})
		d.Is(d.Calls(2, toUnlock), api.Good, note(api.MkFree, 0))
		d.Is(d.Calls(4, toTry), api.Bad, note(api.MkFail, 0))
		d.Is(d.Calls(2, toUnlock), api.Good, note(api.MkFree, 0))
		d.Is(d.Calls(2, toUnlock), api.Monitor, note(api.MkMonitor, 0))
		d.Is(d.Calls(4, toTry), api.Good, note(api.MkTake, 1))
		d.held()
	}
}

// P13.3: what is locked by nobody else is locked at once, and again, whatever its deadline is and whether an interrupt ends it.
func TestAtOnce(t *testing.T) {
	for _, fair := range []bool{false, true} {
		for _, wait := range []int64{api.Forever, 0, 1, api.MaxWait} {
			d := opens(t, fair)
			d.Fine(d.P.Tick(17))
			for _, breaks := range []bool{false, true, false} {
				d.Is(d.Calls(7, api.Op{Kind: api.OpLock, Wait: wait, Breaks: breaks}), api.Good, note(api.MkTake, 1))
				d.Is(d.Calls(7, toTry), api.Good, note(api.MkTake, 1))
			}
			d.at(stand{8, 6})
			d.held()
		}
	}
}

// As many holds as MaxCount: one more is Over; and as many unlocks, and no more, give all of them back.
func TestManyHolds(t *testing.T) {
	d := opens(t, false)
	for i := range api.MaxCount {
		d.Is(d.Calls(1, []api.Op{toLock, toTry}[i%2]), api.Good, note(api.MkTake, 1))
	}
	for _, o := range []api.Op{toLock, toTake, toBreak, toTry} {
		d.Is(d.Calls(1, o), api.Over, note(api.MkOver, 0))
		d.at(stand{2, api.MaxCount})
	}
	d.Is(d.Calls(0, toTry), api.Bad, note(api.MkFail, 0))
	for i := range int64(api.MaxCount) {
		d.at(stand{2, api.MaxCount - i})
		d.Is(d.Calls(1, toUnlock), api.Good, note(api.MkFree, 0))
	}
	d.at(stand{})
	d.Is(d.Calls(1, toUnlock), api.Monitor, note(api.MkMonitor, 0))
	d.Is(d.Calls(0, toTry), api.Good, note(api.MkTake, 1))
}

// A fair Lock of nobody with another one in its queue: a lock is Late, for that one goes first; a try isn't Bad, for nobody has it. Of one that isn't fair a lock is Good.
func TestOthersInTheQueue(t *testing.T) {
	for _, c := range []struct {
		fair bool
		o    api.Op
		want int64
		mark api.Note
	}{
		{true, toTake, api.Late, note(api.MkQuit, 0)},
		{false, toTake, api.Good, note(api.MkTake, 1)},
		{true, toTry, api.Good, note(api.MkTake, 1)},
		{false, toTry, api.Good, note(api.MkTake, 1)},
	} {
		d := opens(t, c.fair)
		d.Calls(0, toLock)
		d.Is(d.Calls(1, toLock), parked)
		d.Is(d.Calls(0, toTake), api.Good, note(api.MkTake, 1))
		d.Calls(0, toUnlock)
		d.Calls(0, toUnlock)
		d.at(stand{})
		d.Is(d.Calls(2, c.o), c.want, c.mark)
		if c.want == api.Late {
			d.Is(d.Goes(1), api.Good, note(api.MkTake, 1))
		} else {
			d.Is(d.Goes(1), parked)
			d.Is(d.Calls(2, toUnlock), api.Good, note(api.MkFree, 0))
			d.Is(d.Goes(1), api.Good, note(api.MkTake, 1))
		}
		d.held()
	}
}

// An unlock that leaves the Lock to nobody unparks the first one of the queue, and those behind it go on one by one.
func TestUnlockUnparks(t *testing.T) {
	for _, fair := range []bool{false, true} {
		d, last, l := opens(t, fair), 5, []int{3, 6, 0}
		d.Calls(last, toLock)
		for _, i := range l {
			d.Is(d.Calls(i, toLock), parked)
		}
		d.Parks(l...)
		for k, i := range l {
			d.Is(d.Calls(last, toUnlock), api.Good, note(api.MkFree, 0))
			d.Parks(l[k+1:]...)
			d.Is(d.Goes(i), api.Good, note(api.MkTake, 1))
			d.Parks(l[k+1:]...)
			last = i
		}
		d.held()
	}
}

// P13.2: rows of calls by chance, of several threads, one call behind the other.
func TestRowsOfCalls(t *testing.T) {
	r, results := rand.New(rand.NewSource(13)), map[int64]int{}
	for range 400 {
		d, threads := opens(t, r.Intn(2) == 0), 1+r.Intn(4)
		for range 12 {
			i, x := r.Intn(threads), d.stands()
			o := []api.Op{toTake, toLock, toBreak, toTry, toUnlock}[r.Intn(5)]
			want, then := d.comes(x, i, o)
			if want.V == api.Broken {
				d.Interrupts(i)
			}
			results[want.V]++
			d.Is(d.Calls(i, o), want.V, want.Marks...)
			d.at(then)
			d.Fine(d.P.Tick(r.Int63n(3)))
			if want.V == parked {
				break
			}
		}
		d.held()
	}
	for _, v := range []int64{api.Good, api.Bad, api.Broken, api.Late, api.Monitor, parked} {
		if results[v] < 50 {
			t.Errorf("%d calls that came to %d tell too little", results[v], v)
		}
	}
}

// comes is what a call comes to, and how the Lock stands then. One that breaks is interrupted, where it would wait.
func (d lockDesk) comes(x stand, thread int, o api.Op) (came, stand) {
	if o == toUnlock {
		a, then := freed(x, thread)
		return came{V: []int64{api.Good, api.Good, api.Monitor}[a.V], Marks: a.Marks}, then
	}
	a, then := tried(x, thread, 1)
	switch {
	case a.V > 0:
		return came{V: []int64{api.Bad, api.Good, api.Over}[a.V], Marks: a.Marks}, then
	case o == toTry:
		return came{V: api.Bad, Marks: []api.Note{note(api.MkFail, 0)}}, then
	case o == toLock:
		return came{V: parked}, then
	case o == toBreak:
		return came{V: api.Broken, Marks: []api.Note{note(api.MkQuit, 0)}}, then
	}
	return came{V: api.Late, Marks: []api.Note{note(api.MkQuit, 0)}}, then
}

// A deadline that was due long ago is due.
func TestDueLongAgo(t *testing.T) {
	for _, until := range []int64{0, 1, 8, 9} {
		d := opens(t, until%2 == 0)
		d.sets(stand{2, 1})
		d.Fine(d.P.Tick(9))
		d.Is(d.CallsUntil(0, toTake, until), api.Late, note(api.MkQuit, 0))
	}
}
