package queue_test

import (
	"encoding/binary"
	"hash/maphash"
	"slices"
	"testing"

	"thole/api"
	"thole/asm"
	"thole/cell"
	"thole/clock"
	"thole/latch"
	"thole/lock"
	"thole/micro"
	"thole/model"
	"thole/permit"
	"thole/queue"
	"thole/replay"
	"thole/sema"
)

// entries are where calls begin, by their kinds.
var entries = map[int]string{
	api.OpLock: "op.lock", api.OpTry: "op.try", api.OpUnlock: "op.unlock", api.OpAcquire: "op.acquire", api.OpTrySome: "op.trysome", api.OpRelease: "op.release", api.OpDrain: "op.drain", api.OpAwait: "op.await", api.OpDown: "op.down",
	api.OpRead: "op.read", api.OpUnread: "op.unread", api.OpWrite: "op.write", api.OpUnwrite: "op.unwrite", api.OpWait: "op.wait", api.OpSignal: "op.signal",
}

// caller is a thread of a run: how many of its calls have begun, whether the last of them is on, and its marks and frames.
type caller struct {
	begun  int
	on     bool
	frames []api.Frame
	marks  []api.Note
}

// program is what a run is of, and never changes.
type program struct {
	s      api.Script
	code   []api.Ins
	places map[int]int
}

// run is calls of several threads that are on together, and what came of them so far.
type run struct {
	*program
	a       *cell.Arena
	p       *permit.Table
	objects []int64
	things  []api.Thing
	callers []caller
	events  []api.Event
}

// begin is a run of a script, nothing of which is done.
func begin(t *testing.T, objects []api.Object, programs ...[]api.Op) *run {
	t.Helper()
	code, labels, err := asm.Assemble(queue.Code(), lock.Code(), sema.Code(), latch.Code(), failed, rwTries, condTries)
	if err != nil {
		t.Fatal(err)
	}
	r := &run{program: &program{api.Script{Objects: objects, Programs: programs}, code, map[int]int{}}}
	for kind, name := range entries {
		r.places[kind] = asm.Find(labels, name)
	}
	if r.a, err = cell.New(api.MaxCells); err != nil {
		t.Fatal(err)
	}
	if r.p, err = permit.New(len(programs)); err != nil {
		t.Fatal(err)
	}
	for _, o := range objects {
		r.objects = append(r.objects, lay(t, r.a, o))
		r.things = append(r.things, model.New(o))
	}
	r.callers = make([]caller, len(programs))
	return r
}

// lay lays an object, with a queue of nobody.
func lay(t *testing.T, a *cell.Arena, o api.Object) int64 {
	t.Helper()
	at, err := a.Alloc(16)
	if err != nil {
		t.Fatal(err)
	}
	head, err := a.Alloc(6)
	if err != nil {
		t.Fatal(err)
	}
	fair := int64(0)
	if o.Fair {
		fair = 1
	}
	for i, v := range []int64{int64(head), int64(head), int64(o.N), 0, int64(o.Kind), fair} {
		if err := a.Store(int64(at+i), v); err != nil {
			t.Fatal(err)
		}
	}
	return int64(at)
}

// copied is a run that stands alike.
func (r *run) copied() *run {
	c := *r
	c.a, c.p, c.things, c.callers = r.a.Clone(), r.p.Clone(), slices.Clone(r.things), slices.Clone(r.callers)
	c.events = slices.Clip(r.events)
	return &c
}

// done tells whether a thread has no call left.
func (r *run) done(i int) bool {
	return !r.callers[i].on && r.callers[i].begun == len(r.s.Programs[i])
}

// goes tells whether a thread has something to do, and isn't blocked.
func (r *run) goes(i int) bool {
	x, err := r.p.At(i)
	return err == nil && !x.Blocked && !r.done(i)
}

// op is the call of a thread that is on.
func (r *run) op(i int) api.Op { return r.s.Programs[i][r.callers[i].begun-1] }

// tell adds an event.
func (r *run) tell(e api.Event) {
	e.Now = r.p.Now()
	r.events = append(r.events, e)
}

// step does a step of a thread, and tells whether its call returned by it.
func (r *run) step(t *testing.T, i int) bool {
	t.Helper()
	c := &r.callers[i]
	if !c.on {
		r.call(t, i)
	}
	frames, notes, how, v, err := micro.Step(r.code, r.a, r.p, i, c.frames)
	if err != nil || how == api.StepTrap {
		t.Fatalf("thread %d at %v: %v, %d: %v, events %v", i, c.frames, err, how, frames, r.events)
	}
	c.frames = frames
	for _, m := range notes {
		m.Value = max(m.Value, -m.Value)
		o := r.op(i).Obj
		x, is := model.Do(r.things[o], i, m)
		if !is {
			t.Fatalf("thread %d may not do %v to %+v; events %v", i, m, r.things[o], r.events)
		}
		r.things[o] = x
		c.marks = append(slices.Clip(c.marks), m)
		r.tell(api.Event{Kind: api.EvMark, Thread: i, Note: m})
	}
	if how == api.StepDone {
		c.on, c.frames, c.marks = false, nil, nil
		r.tell(api.Event{Kind: api.EvReturn, Thread: i, Value: int(v % 16), Got: int(v / 16)})
		return true
	}
	return false
}

// call begins a thread's next call.
func (r *run) call(t *testing.T, i int) {
	t.Helper()
	c := &r.callers[i]
	c.begun++
	c.on = true
	o := r.op(i)
	r.tell(api.Event{Kind: api.EvCall, Thread: i})
	until, err := clock.Deadline(r.p.Now(), o.Wait)
	if err != nil {
		t.Fatal(err)
	}
	asked, breaks := int64(o.N), int64(0)
	switch o.Kind {
	case api.OpLock, api.OpTry:
		asked = 1
	case api.OpAcquire, api.OpTrySome:
		asked = -asked
	}
	if o.Breaks {
		breaks = 1
	}
	c.frames = micro.Start(r.places[o.Kind], r.objects[o.Obj], asked, until, breaks, 77, 78, 79, 80, 81, 82, 83, 84, 85, 86, 87, 88)
}

// interrupt interrupts a thread.
func (r *run) interrupt(t *testing.T, i int) {
	t.Helper()
	r.tell(api.Event{Kind: api.EvBreak, Thread: i})
	if err := r.p.Interrupt(i); err != nil {
		t.Fatal(err)
	}
}

// held tells a fault if what came of the run may not have been.
func (r *run) held(t *testing.T) {
	t.Helper()
	if _, err := replay.Run(r.s, r.events); err != nil {
		t.Fatalf("%v of events %v", err, r.events)
	}
}

// queue is the live nodes' threads of an object's queue, behind the head, in their order.
func (r *run) queue(t *testing.T, object int64) []int {
	t.Helper()
	l := []int{}
	for _, at := range nodes(t, r.a, object) {
		if load(t, r.a, at) != 1 {
			l = append(l, int(load(t, r.a, at+3)-1))
		}
	}
	return l
}

// quiet tells whether all threads are done or blocked.
func (r *run) quiet() bool {
	for i := range r.callers {
		if r.goes(i) {
			return false
		}
	}
	return true
}

// settled tells a fault if the run is quiet, and has lost a wakeup.
func (r *run) settled(t *testing.T) {
	t.Helper()
	in := map[int]bool{}
	for o, x := range r.things {
		l := r.queue(t, r.objects[o])
		for _, i := range l {
			if in[i] || r.done(i) || r.op(i).Obj != o {
				t.Fatalf("thread %d stands in the queue %v: events %v", i, l, r.events)
			}
			in[i] = true
		}
		if len(l) > 0 && r.could(x, l[0]) {
			t.Fatalf("thread %d, the first of %v, could go on: events %v", l[0], l, r.events)
		}
		for _, w := range x.Waiters {
			in[w.Thread] = true
		}
	}
	for i := range r.callers {
		if !r.done(i) && !in[i] {
			t.Fatalf("thread %d parks in no queue: events %v", i, r.events)
		}
	}
}

// could tells whether the call of a thread that stands in a queue could go on.
func (r *run) could(x api.Thing, i int) bool {
	if r.op(i).Kind != api.OpWait {
		return model.Can(x, i, r.op(i))
	}
	return x.Owner == -1 && !slices.ContainsFunc(x.Waiters, func(w api.Waiter) bool { return w.Thread == i })
}

// seeds make keys that no two ways to stand share.
var seeds = [2]maphash.Seed{maphash.MakeSeed(), maphash.MakeSeed()}

// key is how a run stands, but for its events.
func (r *run) key(more int) [2]uint64 {
	b := make([]byte, 0, 4096)
	put := func(l ...int64) {
		for _, v := range l {
			b = binary.AppendVarint(b, v)
		}
	}
	put(int64(more), r.p.Now(), int64(r.a.Len()))
	for i := range r.a.Len() {
		v, _ := r.a.Load(int64(i + 1))
		put(v)
	}
	for i, c := range r.callers {
		x, _ := r.p.At(i)
		put(int64(c.begun), bit(c.on), bit(x.Permit), bit(x.Flag), bit(x.Blocked), x.Deadline, int64(len(c.frames)), int64(len(c.marks)))
		for _, f := range c.frames {
			put(int64(f.At))
			put(f.R[:]...)
		}
		for _, m := range c.marks {
			put(int64(m.Kind), m.Value)
		}
	}
	for _, x := range r.things {
		put(int64(x.N), int64(x.Owner), int64(x.Holds), int64(len(x.Waiters)))
		for _, n := range x.Reads {
			put(int64(n))
		}
		for _, w := range x.Waiters {
			put(int64(w.Thread), int64(w.Holds))
		}
	}
	return [2]uint64{maphash.Bytes(seeds[0], b), maphash.Bytes(seeds[1], b)}
}

// bit is 1 of what is so, else 0.
func bit(is bool) int64 {
	if is {
		return 1
	}
	return 0
}

// outside is what may befall threads in a walk: how many ticks of 1, interrupts and wakes without a reason.
type outside struct{ ticks, breaks, wakes int }

// walk goes through all that may come of a run, whichever thread steps next, and tells how many ways to stand there are, and how many of them are quiet.
func walk(t *testing.T, r *run, out outside) (int, int) {
	t.Helper()
	type place struct {
		r   *run
		out outside
	}
	seen, quiet := map[[2]uint64]struct{}{}, 0
	work := []place{{r, out}}
	add := func(r *run, out outside) {
		k := r.key(out.ticks<<8 | out.breaks<<4 | out.wakes)
		if _, is := seen[k]; !is {
			seen[k] = struct{}{}
			work = append(work, place{r, out})
		}
	}
	for len(work) > 0 {
		x := work[len(work)-1]
		work = work[:len(work)-1]
		if x.r.quiet() {
			quiet++
			x.r.held(t)
			x.r.settled(t)
		}
		for i := range x.r.callers {
			if x.r.goes(i) {
				c := x.r.copied()
				if c.step(t, i) {
					c.held(t)
				}
				add(c, x.out)
			}
			if x.out.breaks > 0 && !x.r.done(i) {
				c, o := x.r.copied(), x.out
				o.breaks--
				c.interrupt(t, i)
				add(c, o)
			}
			if p, _ := x.r.p.At(i); x.out.wakes > 0 && p.Blocked {
				c, o := x.r.copied(), x.out
				o.wakes--
				if err := c.p.Wake(i); err != nil {
					t.Fatal(err)
				}
				add(c, o)
			}
		}
		if x.out.ticks > 0 {
			c, o := x.r.copied(), x.out
			o.ticks--
			if err := c.p.Tick(1); err != nil {
				t.Fatal(err)
			}
			add(c, o)
		}
	}
	return len(seen), quiet
}
