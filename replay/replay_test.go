package replay_test

import (
	"math"
	"math/rand"
	"reflect"
	"slices"
	"strings"
	"testing"

	"thole/api"
	"thole/prog"
	"thole/replay"
)

const (
	most  = math.MaxInt64
	least = math.MinInt64
)

// example is layer 5's: a Lock, and a thread that locks and unlocks.
var example = of(api.Lock, 0, ops(op(api.OpLock, 0), op(api.OpUnlock, 0)))

// swaps are two threads that swap; the first one waits up to 3 ticks, and breaks.
var swaps = of(api.Swap, 0, ops(breaks(waits(op(api.OpSwap, 5), 3))), ops(op(api.OpSwap, 7)))

// P11.1: the chapter's example.
func TestExample(t *testing.T) {
	things := may(t, example, history("0 call; 0 take 1; 0 return good"))
	if want := []api.Thing{{Kind: api.Lock, Owner: 0, Holds: 1, Offer: -1}}; !reflect.DeepEqual(things, want) {
		t.Errorf("it comes to %+v, want %+v", things, want)
	}
	may(t, example, history("0 call; 0 take 1; 0 return good; 0 call; 0 free; 0 return good"))
}

// P11.1: how all objects stand, at first and then.
func TestThings(t *testing.T) {
	s := api.Script{
		Objects: []api.Object{{Kind: api.Lock, Fair: true}, {Kind: api.Sema, N: 9}, {Kind: api.Latch, N: 2}, {Kind: api.RW}, {Kind: api.Swap}, {Kind: api.Lock}},
		Programs: [][]api.Op{
			ops(on(1, op(api.OpAcquire, 4)), on(2, op(api.OpDown, 0)), on(3, op(api.OpRead, 0)), on(4, op(api.OpSwap, 6))),
			ops(op(api.OpLock, 0), op(api.OpLock, 0), op(api.OpWait, 0)),
			ops(op(api.OpLock, 0), on(3, op(api.OpTryRead, 0)), op(api.OpWait, 0)),
			ops(on(5, op(api.OpLock, 0)), on(5, op(api.OpWait, 0))),
		},
	}
	first := []api.Thing{{Kind: 1, Owner: -1, Offer: -1}, {Kind: 2, N: 9, Owner: -1, Offer: -1}, {Kind: 3, N: 2, Owner: -1, Offer: -1}, {Kind: 4, Owner: -1, Offer: -1}, {Kind: 5, Owner: -1, Offer: -1}, {Kind: 1, Owner: -1, Offer: -1}}
	if things := may(t, s, nil); !reflect.DeepEqual(things, first) {
		t.Errorf("at first %+v, want %+v", things, first)
	}
	things := may(t, s, history(
		"0 call; 0 take 4; 1 call; 1 take 1; 0 return good; 1 return good; 1 call; 1 take 1; 1 return good; 1 call; 0 call; 0 down 1; 0 return good",
		"1 wait 2; 2 call; 2 take 1; 2 return good; 2 call; 0 call; 0 read; 2 read; 2 return good; 0 return good; 2 call; 2 wait 1; 0 call; 0 offer 6",
		"3 call; 3 take 1; 3 return good; 3 call; 3 wait 1",
	))
	want := slices.Clone(first)
	want[0].Waiters = []api.Waiter{{Thread: 1, Holds: 2}, {Thread: 2, Holds: 1}}
	want[1].N, want[2].N = 5, 1
	want[3].Reads[0], want[3].Reads[2] = 1, 1
	want[4].Offer, want[4].Item = 0, 6
	want[5].Waiters = []api.Waiter{{Thread: 3, Holds: 1}}
	if !reflect.DeepEqual(things, want) {
		t.Errorf("they come to %+v, want %+v", things, want)
	}
}

// P11.1, P11.2: prog.Check's errors, themselves, ahead of all others.
func TestCheck(t *testing.T) {
	many := make([]api.Event, api.MaxEvents+1)
	for name, s := range map[string]api.Script{
		"nothing":          {},
		"no threads":       {Objects: example.Objects},
		"a wrong object":   of(9, 0, ops()),
		"a wrong call":     of(api.Lock, 0, ops(on(1, op(api.OpTry, 0)))),
		"a wrong pick":     {Objects: example.Objects, Programs: example.Programs, Picks: []api.Pick{{Kind: 9}}},
		"too many threads": of(api.Lock, 0, make([][]api.Op, api.MaxThreads+1)...),
		"too many picks":   {Objects: example.Objects, Programs: example.Programs, Picks: make([]api.Pick, api.MaxPicks+1)},
	} {
		for _, l := range [][]api.Event{nil, {}, history("0 call"), {{Kind: 9}}, many} {
			want := prog.Check(s)
			if _, err := run(t, s, l); err != want || want == nil {
				t.Errorf("%s, %d events: %v, want %v", name, len(l), err, want)
			}
			if calls := pending(t, s, l); calls != nil {
				t.Errorf("Pending of %s: %v, want nil", name, calls)
			}
		}
	}
}

// P11.1, P11.2: as many events as there may be, and more.
func TestLarge(t *testing.T) {
	l := slices.Repeat(history("0 break"), api.MaxEvents-3)
	l = append(l, history("0 call; 0 take 1; 0 return good")...)
	if things := may(t, example, l); things[0].Owner != 0 {
		t.Errorf("behind MaxEvents events: %+v", things)
	}
	if calls := pending(t, example, l[:api.MaxEvents-1]); !slices.Equal(calls, []int{0}) {
		t.Errorf("Pending behind MaxEvents - 1 events: %v", calls)
	}
	more := append(slices.Clone(l), history("0 break")...)
	for _, at := range []int{-1, 0, api.MaxEvents} {
		if at >= 0 {
			more[at] = api.Event{}
		}
		if _, err := run(t, example, more); err != api.ErrLarge {
			t.Errorf("one more, the one at %d wrong: %v, want ErrLarge itself", at, err)
		}
		if calls := pending(t, example, more); calls != nil {
			t.Errorf("Pending of one more: %v", calls)
		}
	}
	l[api.MaxEvents-1].Got = 1
	wrong(t, example, api.MaxEvents-1, l)
}

// P11.1: what is no event, wherever it stands.
func TestNoEvent(t *testing.T) {
	parts := []func(e *api.Event){
		func(e *api.Event) { e.Note.Kind = api.MkTake },
		func(e *api.Event) { e.Note.Value = 1 },
		func(e *api.Event) { e.Note.Value = least },
		func(e *api.Event) { e.Value = 1 },
		func(e *api.Event) { e.Value = -1 },
		func(e *api.Event) { e.Got = 1 },
		func(e *api.Event) { e.Got = least },
	}
	l := history("0 break; 0 call; 0 take 1; 0 return good; 0 call; 0 free 0; 0 return good; 0 break")
	may(t, example, l)
	for at, e := range l {
		for _, kind := range []int{least, -1, 0, 5, 6, 257, 1<<32 + 1, most} {
			less := slices.Clone(l)
			less[at].Kind = kind
			wrong(t, example, at, less)
		}
		for _, thread := range []int{least, -1, 1, 2, 7, 8, 1 << 32, most} {
			less := slices.Clone(l)
			less[at].Thread = thread
			wrong(t, example, at, less)
		}
		for _, part := range parts {
			less := slices.Clone(l)
			part(&less[at])
			if less[at] != e {
				wrong(t, example, at, less)
			}
		}
	}
}

// P11.1: the time is at least 0, and never goes back, be it of the same thread or of another.
func TestTime(t *testing.T) {
	s := of(api.Lock, 0, ops(op(api.OpLock, 0)), ops(op(api.OpTry, 0)))
	may(t, s, history("@0 0 call; @0 1 call; @7 0 take 1; @7 1 fail; @9223372036854775807 0 return good; 1 return bad; 1 break"))
	lastWrong(t, s, "@-1 0 call")
	lastWrong(t, s, "@-9223372036854775808 0 break")
	lastWrong(t, s, "@7 0 call; @6 0 take 1")
	lastWrong(t, s, "@7 0 call; @6 1 call")
	lastWrong(t, s, "@7 0 break; @6 1 break")
	lastWrong(t, s, "@7 0 break; @0 0 call")
	lastWrong(t, s, "0 call; @9223372036854775807 0 take 1; @9223372036854775806 0 return good")
	// The first one that is wrong counts, not the one that would have come ahead.
	wrong(t, s, 2, history("@5 0 call; @8 0 take 1; @7 0 return good; @6 1 call"))
}

// P11.1: calls are on one at a time, and come to an end; marks and returns are of one that is on; interrupts may be at any time.
func TestOrderOfEvents(t *testing.T) {
	lastWrong(t, example, "0 take 1")
	lastWrong(t, example, "0 quit")
	lastWrong(t, example, "0 return full")
	lastWrong(t, example, "0 break; 0 return good")
	lastWrong(t, example, "0 call; 0 call")
	lastWrong(t, example, "0 call; 0 take 1; 0 call")
	lastWrong(t, example, "0 call; 0 take 1; 0 take 1")
	lastWrong(t, example, "0 call; 0 return good")
	lastWrong(t, example, "0 call; 0 take 1; 0 return good; 0 take 1")
	lastWrong(t, example, "0 call; 0 take 1; 0 return good; 0 free")
	lastWrong(t, example, "0 call; 0 take 1; 0 return good; 0 return good")
	lastWrong(t, example, "0 call; 0 return full; 0 call; 0 monitor; 0 return monitor; 0 call")
	may(t, example, history("0 break; 0 break; 0 call; 0 break; 0 take 1; 0 break; 0 return good; 0 break; 0 call; 0 free; 0 return good; 0 break"))
	none := of(api.Swap, 0, nil, ops())
	may(t, none, history("0 break; 1 break; 1 break"))
	lastWrong(t, none, "0 call")
	lastWrong(t, none, "1 call")
	lastWrong(t, none, "2 break")
	all := of(api.Latch, 1, slices.Repeat(ops(op(api.OpDown, 0)), api.MaxOps))
	l := history("0 call; 0 down 1; 0 return good")
	for range api.MaxOps - 1 {
		l = append(l, history("0 call; 0 down 0; 0 return good")...)
	}
	may(t, all, l)
	wrong(t, all, len(l), append(l, api.Event{Kind: api.EvCall}))
}

// P11.1: of a thread's calls the next one begins, on its own object.
func TestNextCall(t *testing.T) {
	s := api.Script{Objects: []api.Object{{Kind: api.Sema, N: 3}, {Kind: api.Sema, N: 8}}, Programs: [][]api.Op{
		ops(on(1, op(api.OpDrain, 0)), op(api.OpTrySome, 4), on(1, op(api.OpRelease, 2))),
		ops(op(api.OpDrain, 0)),
	}}
	things := may(t, s, history("0 call; 1 call; 0 drain 8; 1 drain 3; 1 return good 3; 0 return good 8; 0 call; 0 fail 4; 0 return bad; 0 call; 0 free 2; 0 return good"))
	if things[0].N != 0 || things[1].N != 2 {
		t.Errorf("they come to %+v", things)
	}
	lastWrong(t, s, "0 call; 0 drain 3")
	lastWrong(t, s, "0 call; 1 call; 1 drain 8")
	lastWrong(t, s, "0 call; 0 drain 8; 0 return good 8; 0 call; 0 free 2")
	lastWrong(t, s, "0 call; 0 drain 8; 0 return good 3")
	lastWrong(t, s, "0 call; 0 fail 4")
}

// P11.1: Broken is only of a call that Breaks, and each takes an interrupt of that thread that came ahead of its giving up.
func TestBroken(t *testing.T) {
	plain, broken := op(api.OpLock, 0), breaks(op(api.OpLock, 0))
	s := of(api.Lock, 0, ops(plain, broken, broken), ops(broken, broken, breaks(waits(broken, 0)), broken))
	may(t, s, history("1 break; 1 call; 1 quit; 1 return broken"))
	may(t, s, history("1 call; 1 break; 1 quit; 1 return broken"))
	lastWrong(t, s, "1 call; 1 quit; 1 return broken")
	lastWrong(t, s, "1 call; 1 quit; 1 break; 1 return broken")
	lastWrong(t, s, "0 break; 1 call; 1 quit; 1 return broken")
	lastWrong(t, s, "0 break; 0 call; 0 quit; 0 return broken")
	lastWrong(t, s, "1 break; 1 call; 1 quit; 1 return late")
	lastWrong(t, s, "1 break; 1 call; 1 return broken")
	lastWrong(t, s, "1 break; 1 call; 1 take 1; 1 return broken")
	lastWrong(t, s, "1 break; 1 call; 1 quit; 1 return good")
	lastWrong(t, s, "1 break; 1 call; 1 quit; 1 return full")
	lastWrong(t, s, "1 break; 1 call; 1 quit; 1 return broken 1")
	// One interrupt for each, and no other result takes one.
	lastWrong(t, s, "1 break; 1 call; 1 quit; 1 return broken; 1 call; 1 quit; 1 return broken")
	may(t, s, history("1 break; 1 break; 1 call; 1 quit; 1 return broken; 1 call; 1 quit; 1 return broken"))
	may(t, s, history("1 break; 1 call; 1 quit; 1 break; 1 return broken; 1 call; 1 quit; 1 return broken"))
	may(t, s, history("1 break; 1 call; 1 take 1; 1 return good; 1 call; 1 quit; 1 return broken"))
	may(t, s, history("1 break; 1 call; 1 return full; 1 call; 1 quit; 1 return broken"))
	may(t, s, history("1 break; 1 call; 1 return full; 1 call; 1 return full; 1 call; 1 quit; 1 return late; 1 call; 1 quit; 1 return broken"))
	lastWrong(t, s, "1 break; 1 break; 1 call; 1 quit; 1 return broken; 1 call; 1 quit; 1 return broken; 1 call; 1 quit; 1 return broken")
	may(t, s, history("1 call; 1 quit; 1 break"))
	may(t, s, history("0 break; 0 call; 0 take 1; 0 return good; 0 call; 0 quit; 0 return broken"))
}

// P11.1: Late is only of a call that waits so long at most, and gives up no earlier.
func TestLate(t *testing.T) {
	at := func(wait int64) api.Script { return of(api.Sema, 0, ops(waits(op(api.OpAcquire, 1), wait))) }
	may(t, at(0), history("0 call; 0 quit; 0 return late"))
	may(t, at(3), history("0 call; @3 0 quit; @3 0 return late"))
	may(t, at(3), history("0 call; @4 0 quit; @9 0 return late"))
	may(t, at(3), history("@6 0 call; @9 0 quit; @9 0 return late"))
	may(t, at(api.MaxWait), history("@5 0 call; @1099511627781 0 quit; 0 return late"))
	may(t, at(api.MaxWait), history("0 call; @9223372036854775807 0 quit; 0 return late"))
	lastWrong(t, at(3), "0 call; @2 0 quit; @2 0 return late")
	lastWrong(t, at(3), "0 call; @2 0 quit; @3 0 return late")
	lastWrong(t, at(3), "@6 0 call; @8 0 quit; @20 0 return late")
	lastWrong(t, at(1), "0 call; 0 quit; @1 0 return late")
	lastWrong(t, at(api.MaxWait), "@5 0 call; @1099511627780 0 quit; @1099511627781 0 return late")
	lastWrong(t, at(api.Forever), "0 call; 0 quit; 0 return late")
	lastWrong(t, at(api.Forever), "0 call; @9223372036854775807 0 quit; 0 return late")
	lastWrong(t, at(0), "0 call; 0 return late")
	lastWrong(t, at(0), "0 call; 0 quit; 0 return late 1")
	lastWrong(t, at(0), "0 break; 0 call; 0 quit; 0 return broken")
	// Its time isn't over, where that is told by no number.
	lastWrong(t, at(3), "@9223372036854775806 0 call; @9223372036854775807 0 quit; 0 return late")
	lastWrong(t, at(api.MaxWait), "@9223372036854775807 0 call; 0 quit; 0 return late")
	may(t, at(1), history("@9223372036854775806 0 call; @9223372036854775807 0 quit; 0 return late"))
	may(t, at(0), history("@9223372036854775807 0 call; 0 quit; 0 return late"))
}

// P11.1: of an OpWait that was cancelled it's the Cancel that tells, not the Take behind it.
func TestCancel(t *testing.T) {
	lead := "@1 0 call; 0 take 1; 0 return good; 0 call; 0 wait 1;"
	at := func(o api.Op) api.Script {
		return of(api.Lock, 0, ops(op(api.OpLock, 0), o, op(api.OpUnlock, 0)), ops(op(api.OpLock, 0), op(api.OpSignal, 0), op(api.OpUnlock, 0)))
	}
	late, broken := at(waits(op(api.OpWait, 0), 2)), at(breaks(op(api.OpWait, 0)))
	may(t, late, history(lead, "@3 0 cancel; 0 take 1; @9 0 return late; 0 call; 0 free; 0 return good"))
	lastWrong(t, late, lead, "@2 0 cancel; @3 0 take 1; 0 return late")
	lastWrong(t, late, lead, "@3 0 cancel; 0 return late")
	lastWrong(t, late, lead, "@3 0 cancel; 0 take 1; 0 return good")
	lastWrong(t, late, lead, "0 break; @3 0 cancel; 0 take 1; 0 return broken")
	may(t, broken, history(lead, "0 break; 0 cancel; 1 call; 1 take 1; 1 return good; 1 call; 1 none; 1 return good; 1 call; 1 free; 0 take 1; 0 return broken"))
	lastWrong(t, broken, lead, "0 cancel; 0 break; 0 take 1; 0 return broken")
	lastWrong(t, broken, lead, "0 cancel; 0 take 1; 0 break; 0 return broken")
	lastWrong(t, broken, lead, "0 break; @99 0 cancel; 0 take 1; 0 return late")
	// Who got a signal gives up no more.
	signal := lead + "1 call; 1 take 1; 1 return good; 1 call; 1 signal 0; 1 return good; 1 call; 1 free; 0 break;"
	may(t, broken, history(signal, "0 take 1; 1 return good; 0 return good"))
	lastWrong(t, broken, signal, "0 cancel")
	lastWrong(t, broken, signal, "0 take 1; 0 return broken")
	lastWrong(t, broken, lead, "0 take 1")
	// The time of an OpWait that gives up at once tells nothing: its Quit is of an interrupt.
	lastWrong(t, at(waits(op(api.OpWait, 0), 0)), "0 call; 0 take 1; 0 return good; 0 call; 0 quit; 0 return late")
	may(t, broken, history("0 break; 0 call; 0 return full; 0 call; 0 quit; 0 return broken"))
}

// P11.1: of a swap both get what the other one had.
func TestSwap(t *testing.T) {
	met := "0 call; 0 offer 5; 1 call; @1 1 swap 0;"
	may(t, swaps, history(met, "0 return good 7; 1 return good 5"))
	may(t, swaps, history(met, "@9 0 break; 1 return good 5; 0 return good 7"))
	may(t, swaps, history("1 call; 1 offer 7; 0 call; 0 swap 1; 0 return good 7; 1 return good 5"))
	lastWrong(t, swaps, met, "0 return good 5")
	lastWrong(t, swaps, met, "0 return good 0")
	lastWrong(t, swaps, met, "1 return good 7")
	lastWrong(t, swaps, met, "1 return good 0")
	lastWrong(t, swaps, met, "@9 0 return late 7")
	lastWrong(t, swaps, met, "@9 0 back")
	lastWrong(t, swaps, met, "@9 0 quit")
	lastWrong(t, swaps, met, "0 offer 5")
	lastWrong(t, swaps, met, "0 swap 0")
	lastWrong(t, swaps, met, "0 swap 1")
	lastWrong(t, swaps, met, "1 swap 0")
	lastWrong(t, swaps, "0 call; 0 offer 5; 0 return good 5")
	lastWrong(t, swaps, "0 call; 0 offer 5; 0 return good")
	lastWrong(t, swaps, "0 call; 0 offer 5; 0 return full")
	lastWrong(t, swaps, "0 call; 0 offer 5; 0 swap 0")
	lastWrong(t, swaps, "0 call; 0 offer 5; 1 call; 1 swap 1")
	lastWrong(t, swaps, "0 call; 0 offer 5; 1 call; 1 offer 7")
	lastWrong(t, swaps, "0 call; 1 call; 1 swap 0")
	lastWrong(t, swaps, "0 call; 0 offer 7")
	may(t, swaps, history("0 call; 0 offer 5; @3 0 back; 0 return late; 1 call; 1 offer 7"))
	lastWrong(t, swaps, "0 call; 0 offer 5; @3 0 back; 1 call; 1 swap 0")
	lastWrong(t, swaps, "0 call; 0 offer 5; @3 0 back; 0 return late 5")
	lastWrong(t, swaps, "0 call; 0 offer 5; @2 0 back; @3 0 return late")
	may(t, swaps, history("0 call; 0 offer 5; 0 break; 0 back; 0 return broken"))
	lastWrong(t, swaps, "0 call; 0 offer 5; 0 back; 0 break; 0 return broken")
	// Of two Swaps, and of calls one behind the other, each has its own.
	s := api.Script{Objects: []api.Object{{Kind: api.Swap}, {Kind: api.Swap}}, Programs: [][]api.Op{
		ops(op(api.OpSwap, 0), op(api.OpSwap, 1)), ops(on(1, op(api.OpSwap, 2)), op(api.OpSwap, 3)), ops(on(1, op(api.OpSwap, 4)), op(api.OpSwap, 1000)),
	}}
	l := "0 call; 0 offer; 1 call; 1 offer 2; 2 call;"
	lastWrong(t, s, l, "2 swap 0")
	l += "2 swap 1; 1 return good 4; 2 return good 2; 2 call; 2 swap 0; 0 return good 1000; 2 return good; 0 call; 0 offer 1; 1 call;"
	lastWrong(t, s, l, "0 return good 1000")
	lastWrong(t, s, l, "0 return good 3")
	may(t, s, history(l, "1 swap 0; 0 return good 3; 1 return good 1"))
}

// P11.1: a call of another kind of object than its own has no marks, and is Unusable; one of its own kind never is.
func TestUnusable(t *testing.T) {
	for kind := api.OpLock; kind <= api.OpSwap; kind++ {
		for object := api.Lock; object <= api.Swap; object++ {
			o := op(kind, 0)
			if o.Kind == api.OpAcquire || o.Kind == api.OpTrySome || o.Kind == api.OpRelease {
				o.N = 1
			}
			if prog.Waits(kind) {
				o = breaks(waits(o, 0))
			}
			s := of(object, 0, ops(o))
			if prog.Of(kind) != object {
				just(t, s, "0 break; 0 call", 0, ": unusable")
			} else {
				lastWrong(t, s, "0 call; 0 return unusable")
			}
		}
	}
}

// P11.2: which calls are on, by calls and returns alone.
func TestPending(t *testing.T) {
	s := of(api.Lock, 0, ops(op(api.OpLock, 0), op(api.OpUnlock, 0), op(api.OpTry, 0)), ops(op(api.OpTry, 0)), nil)
	for written, want := range map[string][]int{
		"":                                 {-1, -1, -1},
		"2 break":                          {-1, -1, -1},
		"0 call":                           {0, -1, -1},
		"0 call; 0 take 1; 0 break":        {0, -1, -1},
		"0 call; 1 call; 0 take 1; 1 fail": {0, 0, -1},
		"0 call; 0 take 1; 0 return good; 1 call":                                              {-1, 0, -1},
		"0 call; 0 take 1; 0 return good; 0 call":                                              {1, -1, -1},
		"0 call; 0 return full; 0 call; 0 monitor; 0 return monitor; 0 call; 0 take 1":         {2, -1, -1},
		"0 call; 0 return full; 0 call; 0 monitor; 0 return monitor; 0 call; 0 take 1; 1 call": {2, 0, -1},
	} {
		if calls := pending(t, s, history(written)); !slices.Equal(calls, want) {
			t.Errorf("Pending of %q: %v, want %v", written, calls, want)
		}
	}
	for _, bad := range []string{"0 return good", "0 call; 0 take 2", "3 break", "0 call; 0 call"} {
		if calls := pending(t, s, history(bad)); calls != nil {
			t.Errorf("Pending of %q: %v, want nil", bad, calls)
		}
	}
}

// P11.3: what is told is new memory each time.
func TestNewMemory(t *testing.T) {
	s := of(api.Lock, 0, ops(op(api.OpLock, 0), op(api.OpWait, 0)))
	l := history("0 call; 0 take 1; 0 return good; 0 call; 0 wait 1")
	x, _ := replay.Run(s, l)
	y, _ := replay.Run(s, l)
	p, q := replay.Pending(s, l), replay.Pending(s, l)
	x[0].Waiters[0].Thread, x[0].Kind, p[0] = 9, 9, 9
	if y[0].Waiters[0].Thread != 0 || y[0].Kind != api.Lock || q[0] != 1 {
		t.Errorf("two answers share memory: %+v, %v", y, q)
	}
	x, y = may(t, s, nil), may(t, s, nil)
	x[0].Kind = 9
	if y[0].Kind != api.Lock {
		t.Errorf("two answers share memory: %+v", y)
	}
}

// P1: any scripts and any events come to an end, and to an answer that there is.
func TestAnything(t *testing.T) {
	r := rand.New(rand.NewSource(11))
	numbers := []int64{least, least + 1, -1 << 32, -2, -1, 0, 0, 0, 0, 1, 1, 1, 2, 2, 3, 4, 5, 7, 8, 16, 17, 18, 999, 1000, 1001, 1 << 40, 1<<40 + 1, most - 1, most}
	some := func() int64 { return numbers[r.Intn(len(numbers))] }
	sane := []api.Script{example, swaps, of(api.Sema, 1000, ops(op(api.OpDrain, 0), op(api.OpRelease, 1000), op(api.OpRelease, 1)))}
	for range 40000 {
		s := sane[r.Intn(len(sane))]
		if r.Intn(3) == 0 {
			s = of(int(some()), int(some()), ops(api.Op{Kind: int(some()), Obj: int(some()), N: int(some()), Wait: some(), Breaks: r.Intn(2) == 0}))
		}
		var l []api.Event
		now := int64(0)
		for range r.Intn(12) {
			now = max(now, some()>>r.Intn(64))
			e := api.Event{Kind: 1 + r.Intn(4), Thread: r.Intn(len(s.Programs)), Now: now}
			switch {
			case r.Intn(8) == 0:
				e = api.Event{Kind: int(some()), Thread: int(some()), Now: some(), Note: api.Note{Kind: int(some()), Value: some()}, Value: int(some()), Got: int(some())}
			case e.Kind == api.EvMark:
				e.Note = api.Note{Kind: int(some()), Value: some()}
			case e.Kind == api.EvReturn:
				e.Value, e.Got = int(some()), int(some())
			}
			l = append(l, e)
		}
		_, err := run(t, s, l)
		calls := pending(t, s, l)
		if (calls == nil) != (err != nil) || err == nil && len(calls) != len(s.Programs) {
			t.Fatalf("Pending of %s: %v; Run: %v", text(l), calls, err)
		}
		if want := prog.Check(s); want != nil && err != want {
			t.Fatalf("Run: %v, want prog.Check's %v", err, want)
		} else if want == nil {
			wrongAt(t, err)
		}
	}
}

// TestNotation holds the tests' own writing: what is written is what is read.
func TestNotation(t *testing.T) {
	written := "@0 0 call; @0 0 take 1; @5 7 break; @5 0 return good 7; "
	want := []api.Event{
		{Kind: api.EvCall}, {Kind: api.EvMark, Note: api.Note{Kind: api.MkTake, Value: 1}},
		{Kind: api.EvBreak, Thread: 7, Now: 5}, {Kind: api.EvReturn, Now: 5, Value: api.Good, Got: 7},
	}
	if l := history(written); !slices.Equal(l, want) || text(l) != written || !strings.HasPrefix(text(want), "@0 0 call") {
		t.Errorf("%q is read as %+v", written, l)
	}
}
