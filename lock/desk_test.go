package lock_test

import (
	"math"
	"reflect"
	"slices"
	"testing"

	"thole/api"
	"thole/asm"
	"thole/cell"
	"thole/clock"
	"thole/lock"
	"thole/micro"
	"thole/permit"
	"thole/queue"
	"thole/replay"
)

// others are tries of other kinds of objects, that no Lock is asked by, and where routines come back to.
const others = "sema.try:\nsema.tryfair:\nlatch.try:\nrw.trywrite:\nrw.trywritefair:\nrw.tryread:\nrw.tryreadfair:\nmark 99 r0\nret\ntest.done:\ndone r0"

// entries are where calls begin.
var entries = map[int]string{api.OpLock: "op.lock", api.OpTry: "op.try", api.OpUnlock: "op.unlock"}

// desk is a Lock, and threads that do routines and calls on it, each one alone; and what came of the calls so far.
type desk struct {
	t      *testing.T
	code   []api.Ins
	labels []api.Label
	a      *cell.Arena
	p      *permit.Table
	object int64
	s      api.Script
	events []api.Event
	on     [api.MaxThreads][]api.Frame // of calls that park
}

// stand is how a Lock stands: whose it is (0: nobody's; else a thread's number and 1), and how often it is held.
type stand struct{ owner, holds int64 }

// came is what a routine or a call answers, and its marks.
type came struct {
	v     int64
	marks []api.Note
}

// parked is what came of a call that parks.
const parked = -1

// opens is a desk of a Lock of nobody, with a queue of nobody.
func opens(t *testing.T, fair bool) *desk {
	t.Helper()
	d := &desk{t: t, s: api.Script{Objects: []api.Object{{Kind: api.Lock, Fair: fair}}, Programs: make([][]api.Op, api.MaxThreads)}}
	var err error
	d.code, d.labels, err = asm.Assemble(queue.Code(), lock.Code(), others)
	d.fine(err)
	d.a, err = cell.New(1000)
	d.fine(err)
	d.p, err = permit.New(api.MaxThreads)
	d.fine(err)
	d.alloc(3)
	d.object = d.alloc(16)
	head := d.alloc(6)
	d.put(d.object, head, head, 0, 0, api.Lock)
	if fair {
		d.put(d.object+5, 1)
	}
	return d
}

// fine is to be no error.
func (d *desk) fine(err error) {
	d.t.Helper()
	if err != nil {
		d.t.Fatal(err)
	}
}

// alloc is the place of so many new cells.
func (d *desk) alloc(n int) int64 {
	d.t.Helper()
	at, err := d.a.Alloc(n)
	d.fine(err)
	return int64(at)
}

// put makes cells, from a place on, these numbers.
func (d *desk) put(at int64, l ...int64) {
	d.t.Helper()
	for i, v := range l {
		d.fine(d.a.Store(at+int64(i), v))
	}
}

// cells are what so many cells are, from a place on.
func (d *desk) cells(at int64, n int) []int64 {
	d.t.Helper()
	l := make([]int64, n)
	for i := range l {
		var err error
		l[i], err = d.a.Load(at + int64(i))
		d.fine(err)
	}
	return l
}

// stands is how the Lock stands.
func (d *desk) stands() stand {
	l := d.cells(d.object+2, 2)
	return stand{l[1], l[0]}
}

// sets makes it stand so.
func (d *desk) sets(x stand) { d.put(d.object+2, x.holds, x.owner) }

// stood puts a node behind all in the queue: a thread's, or one that gave up.
func (d *desk) stood(thread int, gaveUp bool) {
	d.t.Helper()
	at, tail := d.alloc(6), d.cells(d.object+1, 1)[0]
	d.put(at, 0, tail, 0, int64(thread+1))
	if gaveUp {
		d.put(at, 1, tail, 0, 0)
	}
	if d.cells(tail, 1)[0] == 0 {
		d.put(tail, -1)
	}
	d.put(tail+2, at)
	d.put(d.object+1, at)
}

// steps does steps of a thread until it parks, or comes to something.
func (d *desk) steps(thread int, l []api.Frame) (came, []api.Frame) {
	d.t.Helper()
	var x came
	for range 300 {
		m, notes, how, v, err := micro.Step(d.code, d.a, d.p, thread, l)
		if err != nil || how == api.StepTrap {
			d.t.Fatalf("thread %d at %v: %d, %v", thread, l, how, err)
		}
		l = m
		x.marks = append(x.marks, notes...)
		switch how {
		case api.StepDone:
			x.v = v
			return x, nil
		case api.StepBlocked:
			x.v = parked
			return x, l
		}
	}
	d.t.Fatalf("thread %d goes on and on at %v", thread, l)
	return x, l
}

// odd are registers as they may be, that number among them.
func odd(some int64) []int64 {
	l := make([]int64, api.Regs)
	for i := range l {
		l[i] = some - int64(i%3)
	}
	return l
}

// does is what comes of a routine, done by a thread.
func (d *desk) does(thread int, name string, args ...int64) came {
	d.t.Helper()
	f := api.Frame{At: asm.Find(d.labels, name)}
	copy(f.R[:], append(args, odd(-77)...))
	f.R[14], f.R[15] = 1, 0
	x, _ := d.steps(thread, append(micro.Start(asm.Find(d.labels, "test.done")), f))
	return x
}

// enters is a thread at an entry, all registers that the entry hasn't to itself being odd.
func (d *desk) enters(name string, until, breaks, some int64) []api.Frame {
	return micro.Start(asm.Find(d.labels, name), append([]int64{d.object, 1, until, breaks}, odd(some)...)...)
}

// calls is what comes of a call, done by a thread.
func (d *desk) calls(thread int, o api.Op) came {
	d.t.Helper()
	until, err := clock.Deadline(d.p.Now(), o.Wait)
	d.fine(err)
	breaks := int64(0)
	if o.Breaks {
		breaks = 1
	}
	some := []int64{0, 1, -1, 2, 999, math.MinInt64, math.MaxInt64}[len(d.events)%7]
	d.on[thread] = d.enters(entries[o.Kind], until, breaks, some)
	d.s.Programs[thread] = append(d.s.Programs[thread], o)
	d.tell(api.Event{Kind: api.EvCall, Thread: thread})
	return d.goes(thread)
}

// goes is what comes of a thread's call that is on.
func (d *desk) goes(thread int) came {
	d.t.Helper()
	x, l := d.steps(thread, d.on[thread])
	d.on[thread] = l
	for _, m := range x.marks {
		d.tell(api.Event{Kind: api.EvMark, Thread: thread, Note: m})
	}
	if l == nil {
		d.tell(api.Event{Kind: api.EvReturn, Thread: thread, Value: int(x.v % 16), Got: int(x.v / 16)})
	}
	return x
}

// tell adds an event.
func (d *desk) tell(e api.Event) {
	e.Now = d.p.Now()
	d.events = append(d.events, e)
}

// interrupts interrupts a thread.
func (d *desk) interrupts(thread int) {
	d.t.Helper()
	d.tell(api.Event{Kind: api.EvBreak, Thread: thread})
	d.fine(d.p.Interrupt(thread))
}

// is tells a fault if something else came of it.
func (d *desk) is(x came, v int64, marks ...api.Note) {
	d.t.Helper()
	if x.v != v || !slices.Equal(x.marks, marks) {
		d.t.Errorf("it comes to %d, marks %v; want %d, %v; events %v", x.v, x.marks, v, marks, d.events)
	}
}

// at tells a fault if the Lock stands otherwise.
func (d *desk) at(want stand) {
	d.t.Helper()
	if got := d.stands(); got != want {
		d.t.Errorf("it stands as %+v; want %+v; events %v", got, want, d.events)
	}
}

// held tells a fault if what came of all calls may not have been, or the Lock stands otherwise behind it.
func (d *desk) held() {
	d.t.Helper()
	l, err := replay.Run(d.s, d.events)
	if err != nil {
		d.t.Fatalf("%v of events %v", err, d.events)
	}
	want := api.Thing{Kind: api.Lock, Owner: int(d.stands().owner - 1), Holds: int(d.stands().holds), Offer: -1}
	if l[0].Waiters = nil; !reflect.DeepEqual(l, []api.Thing{want}) {
		d.t.Errorf("by its marks it stands as %+v; by its cells as %+v; events %v", l, want, d.events)
	}
}

// note is a mark.
func note(kind int, v int64) api.Note { return api.Note{Kind: kind, Value: v} }
