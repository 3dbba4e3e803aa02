package replay

import (
	"thole/api"
	"thole/model"
)

// walk is how all stand behind the events so far.
type walk struct {
	objects []api.Object
	things  []api.Thing
	threads []thread
	now     int64
}

// thread is how a thread stands.
type thread struct {
	ops    []api.Op
	begun  int   // how many of its calls began
	call   *call // the last one of these, if it is on
	breaks int   // how many interrupts came that no call took
}

// call is a call that is on.
type call struct {
	op    api.Op
	rows  []row
	since int64
	marks []api.Note // its own, and met
	got   int
	// When it gave up, and whether an interrupt had come by then, for it alone.
	until int64
	cut   bool
}

// start is how all stand ahead of all events.
func start(s api.Script) *walk {
	w := &walk{objects: s.Objects}
	for _, o := range s.Objects {
		w.things = append(w.things, model.New(o))
	}
	for _, ops := range s.Programs {
		w.threads = append(w.threads, thread{ops: ops})
	}
	return w
}

// event does an event, and tells whether it may be.
func (w *walk) event(e api.Event) bool {
	if !isBare(e) || e.Thread < 0 || e.Thread >= len(w.threads) || e.Now < w.now {
		return false
	}
	w.now = e.Now
	t := &w.threads[e.Thread]
	switch e.Kind {
	case api.EvCall:
		return w.begin(t)
	case api.EvMark:
		return t.call != nil && w.mark(e.Thread, e.Note)
	case api.EvReturn:
		return t.call != nil && t.end(e.Value, e.Got)
	case api.EvBreak:
		t.breaks++
		return true
	}
	return false
}

// isBare tells whether an event has nothing that one of its kind doesn't tell.
func isBare(e api.Event) bool {
	return (e.Kind == api.EvMark || e.Note == api.Note{}) && (e.Kind == api.EvReturn || e.Value == 0 && e.Got == 0)
}

// begin begins the thread's next call, if there is one and none is on.
func (w *walk) begin(t *thread) bool {
	if t.call != nil || t.begun == len(t.ops) {
		return false
	}
	op := t.ops[t.begun]
	t.begun++
	t.call = &call{op: op, rows: rowsOf(op, w.objects[op.Obj].Kind), since: w.now}
	return true
}

// mark does a mark of thread i, whose call is on.
func (w *walk) mark(i int, m api.Note) bool {
	t := &w.threads[i]
	c := t.call
	x := &w.things[c.op.Obj]
	y, is := model.Do(*x, i, m)
	if !is || !c.goesOn(m) {
		return false
	}
	switch m.Kind {
	case api.MkQuit, api.MkCancel, api.MkBack:
		c.until, c.cut = w.now, t.breaks > 0
	case api.MkDrain:
		c.got = int(m.Value)
	case api.MkSwap:
		// No row of a call that offers is whole while the offer stands, so that call is on.
		c.got = x.Item
		w.threads[x.Offer].call.meet(c.op.N)
	}
	*x = y
	return true
}

// goesOn notes a mark more, if it is the next one of a row.
func (c *call) goesOn(m api.Note) bool {
	marks := append(c.marks, m)
	if !someBegins(c.rows, marks) {
		return false
	}
	c.marks = marks
	return true
}

// meet gives the call what it gets for what it offers.
func (c *call) meet(item int) {
	c.marks = append(c.marks, api.Note{Kind: met})
	c.got = item
}

// end ends the call that is on, if it may come to that.
func (t *thread) end(result, got int) bool {
	c := t.call
	if got != c.got || !someComes(c.rows, c.marks, result) {
		return false
	}
	switch result {
	case api.Broken:
		if !c.op.Breaks || !c.cut {
			return false
		}
		t.breaks--
	case api.Late:
		if !c.isLate() {
			return false
		}
	}
	t.call = nil
	return true
}

// isLate tells whether the call's time was over when it gave up. Both times are at least 0, so their distance can't wrap round, where the time that it waits for might.
func (c *call) isLate() bool {
	return c.op.Wait != api.Forever && c.until-c.since >= c.op.Wait
}

// number is the number of the call that is on, or -1.
func (t *thread) number() int {
	if t.call == nil {
		return -1
	}
	return t.begun - 1
}
