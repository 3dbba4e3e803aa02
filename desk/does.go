package desk

import (
	"math"

	"thole/api"
	"thole/asm"
	"thole/clock"
	"thole/micro"
)

// Came is what a call comes to, or a routine answers in registers 0 and 1; and its marks.
type Came struct {
	V, More int64
	Marks   []api.Note
}

// Parked is what comes of a call that parks.
const Parked = -1

// routineEnd is where routines come back to: a mark tells what they answer in register 1.
const (
	routineEnd = "desk.end:\nmark 98 r1\ndone r0"
	answered   = 98
)

// Note is a mark.
func Note(kind int, v int64) api.Note { return api.Note{Kind: kind, Value: v} }

// steps does steps of a thread until it parks, or comes to something.
func (d *Desk) steps(thread int, l []api.Frame) (Came, []api.Frame) {
	d.t.Helper()
	var x Came
	for range 300 {
		m, notes, how, v, err := micro.Step(d.code, d.a, d.P, thread, l)
		if err != nil || how == api.StepTrap {
			d.t.Fatalf("thread %d at %v: %d, %v", thread, l, how, err)
		}
		l = m
		x.Marks = append(x.Marks, notes...)
		switch how {
		case api.StepDone:
			x.V = v
			return x, nil
		case api.StepBlocked:
			x.V = Parked
			return x, l
		}
	}
	d.t.Fatalf("thread %d goes on and on at %v", thread, l)
	return x, l
}

// plain makes marks' values, of which one below 0 means 0 less it, what they mean.
func plain(l []api.Note) {
	for i, m := range l {
		l[i].Value = max(m.Value, -m.Value)
	}
}

// odd are registers as they may be, that number among them.
func odd(some int64) []int64 {
	l := make([]int64, api.Regs)
	for i := range l {
		l[i] = some - int64(i%3)
	}
	return l
}

// Does is what comes of a routine, done by a thread.
func (d *Desk) Does(thread int, name string, args ...int64) Came {
	d.t.Helper()
	f := api.Frame{At: asm.Find(d.labels, name)}
	copy(f.R[:], append(args, odd(-77)...))
	f.R[14], f.R[15] = 1, 0
	x, l := d.steps(thread, append(micro.Start(asm.Find(d.labels, "desk.end")), f))
	n := len(x.Marks) - 1
	if l != nil || n < 0 || x.Marks[n].Kind != answered {
		d.t.Fatalf("%s%v comes to %v", name, args, x)
	}
	x.More = x.Marks[n].Value
	x.Marks = x.Marks[:n]
	plain(x.Marks)
	return x
}

// entry is where calls of a kind begin.
func entry(kind int) string {
	switch kind {
	case api.OpLock:
		return "op.lock"
	case api.OpTry:
		return "op.try"
	case api.OpUnlock:
		return "op.unlock"
	case api.OpAcquire:
		return "op.acquire"
	case api.OpTrySome:
		return "op.trysome"
	case api.OpRelease:
		return "op.release"
	case api.OpDrain:
		return "op.drain"
	case api.OpAwait:
		return "op.await"
	case api.OpDown:
		return "op.down"
	}
	return ""
}

// asked is what a call has in register 1: that number, where the chapter tells of nothing that is asked for.
func asked(o api.Op, some int64) int64 {
	switch o.Kind {
	case api.OpAcquire, api.OpTrySome:
		return -int64(o.N)
	case api.OpRelease:
		return int64(o.N)
	case api.OpAwait, api.OpDown:
		return some
	}
	return 1
}

// Calls is what comes of a call, done by a thread.
func (d *Desk) Calls(thread int, o api.Op) Came {
	d.t.Helper()
	until, err := clock.Deadline(d.P.Now(), o.Wait)
	d.Fine(err)
	return d.CallsUntil(thread, o, until)
}

// CallsUntil is likewise, with that deadline. All registers that the call hasn't to itself are odd.
func (d *Desk) CallsUntil(thread int, o api.Op, until int64) Came {
	d.t.Helper()
	some := []int64{0, 1, -1, 2, 999, math.MinInt64, math.MaxInt64}[len(d.events)%7]
	regs := append([]int64{d.Object, asked(o, some), until, bit(o.Breaks)}, odd(some)...)
	d.on[thread] = micro.Start(asm.Find(d.labels, entry(o.Kind)), regs...)
	d.s.Programs[thread] = append(d.s.Programs[thread], o)
	d.tell(api.Event{Kind: api.EvCall, Thread: thread})
	return d.Goes(thread)
}

// Goes is what comes of a thread's call that is on.
func (d *Desk) Goes(thread int) Came {
	d.t.Helper()
	x, l := d.steps(thread, d.on[thread])
	d.on[thread] = l
	plain(x.Marks)
	for _, m := range x.Marks {
		d.tell(api.Event{Kind: api.EvMark, Thread: thread, Note: m})
	}
	if l == nil {
		d.tell(api.Event{Kind: api.EvReturn, Thread: thread, Value: int(x.V % 16), Got: int(x.V / 16)})
	}
	return x
}

// Interrupts interrupts a thread.
func (d *Desk) Interrupts(thread int) {
	d.t.Helper()
	d.tell(api.Event{Kind: api.EvBreak, Thread: thread})
	d.Fine(d.P.Interrupt(thread))
}

// tell adds an event.
func (d *Desk) tell(e api.Event) {
	e.Now = d.P.Now()
	d.events = append(d.events, e)
}
