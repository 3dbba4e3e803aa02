// Package desk holds the texts of layers 13 to 18 against their chapters, for the tests of those layers: it has an object, and threads that do routines and calls on it, each one alone.
package desk

import (
	"strings"

	"thole/api"
	"thole/asm"
	"thole/cell"
	"thole/ins"
	"thole/permit"
	"thole/queue"
)

// Tester is told of faults; a *testing.T is one.
type Tester interface {
	Helper()
	Errorf(form string, about ...any)
	Fatalf(form string, about ...any)
}

// Desk is an object of its own cells, and MaxThreads threads; and what came of their calls so far.
type Desk struct {
	P      *permit.Table
	Object int64

	t      Tester
	code   []api.Ins
	labels []api.Label
	a      *cell.Arena
	s      api.Script
	events []api.Event
	on     [api.MaxThreads][]api.Frame // of calls that park
}

// Open is a desk of an object that nobody holds, with a queue of nobody, and these texts beside the queue's.
func Open(t Tester, o api.Object, texts ...string) *Desk {
	t.Helper()
	d := &Desk{t: t, s: api.Script{Objects: []api.Object{o}, Programs: make([][]api.Op, api.MaxThreads)}}
	texts = append(texts, queue.Code(), routineEnd)
	var err error
	d.code, d.labels, err = asm.Assemble(append(texts, others(texts))...)
	d.Fine(err)
	d.a, err = cell.New(api.MaxCells / 4)
	d.Fine(err)
	d.P, err = permit.New(api.MaxThreads)
	d.Fine(err)
	d.alloc(3)
	d.Object = d.alloc(16)
	head := d.alloc(6)
	d.Put(d.Object, head, head, int64(o.N), 0, int64(o.Kind), bit(o.Fair))
	return d
}

// others are stubs of those tries of other kinds of objects that the texts don't have. The object isn't asked by them.
func others(texts []string) string {
	has := map[string]int{}
	for _, line := range strings.Split(strings.Join(texts, "\n"), "\n") {
		if l, err := ins.Parse(line); err == nil {
			has[l.Label]++
		}
	}
	text := ""
	for _, name := range []string{"lock.try", "lock.tryfair", "sema.try", "sema.tryfair", "latch.try", "rw.trywrite", "rw.trywritefair", "rw.tryread", "rw.tryreadfair"} {
		if has[name] == 0 {
			text += name + ":\n"
		}
	}
	return text + "mark 99 r0\nret"
}

// bit is 1 of what is so, else 0.
func bit(is bool) int64 {
	if is {
		return 1
	}
	return 0
}

// Fine ends the test if there is an error.
func (d *Desk) Fine(err error) {
	d.t.Helper()
	if err != nil {
		d.t.Fatalf("%v", err)
	}
}

// alloc is the place of so many new cells.
func (d *Desk) alloc(n int) int64 {
	d.t.Helper()
	at, err := d.a.Alloc(n)
	d.Fine(err)
	return int64(at)
}

// Put makes cells, from a place on, these numbers.
func (d *Desk) Put(at int64, l ...int64) {
	d.t.Helper()
	for i, v := range l {
		d.Fine(d.a.Store(at+int64(i), v))
	}
}

// Cells are what so many cells are, from a place on.
func (d *Desk) Cells(at int64, n int) []int64 {
	d.t.Helper()
	l := make([]int64, n)
	for i := range l {
		var err error
		l[i], err = d.a.Load(at + int64(i))
		d.Fine(err)
	}
	return l
}

// All are what all cells are, from place 1 on.
func (d *Desk) All() []int64 { return d.Cells(1, d.a.Len()) }

// Stood puts a node behind all in the queue: a thread's, or one that gave up.
func (d *Desk) Stood(thread int, gaveUp bool) {
	d.t.Helper()
	at, tail := d.alloc(6), d.Cells(d.Object+1, 1)[0]
	d.Put(at, 0, tail, 0, int64(thread+1))
	if gaveUp {
		d.Put(at, 1, tail, 0, 0)
	}
	if d.Cells(tail, 1)[0] == 0 {
		d.Put(tail, -1)
	}
	d.Put(tail+2, at)
	d.Put(d.Object+1, at)
}
