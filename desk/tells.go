package desk

import (
	"slices"

	"thole/api"
	"thole/asm"
	"thole/replay"
)

// Is tells a fault if something else came of it.
func (d *Desk) Is(x Came, v int64, marks ...api.Note) {
	d.t.Helper()
	if x.V != v || !slices.Equal(x.Marks, marks) {
		d.t.Errorf("it comes to %d, marks %v; want %d, %v; events %v", x.V, x.Marks, v, marks, d.events)
	}
}

// At tells a fault if the object's cells, from that one on, are others.
func (d *Desk) At(from int64, want ...int64) {
	d.t.Helper()
	if got := d.Cells(d.Object+from, len(want)); !slices.Equal(got, want) {
		d.t.Errorf("the object's cells +%d on are %v; want %v; events %v", from, got, want, d.events)
	}
}

// Only tells a fault if cells other than these of the object are changed, or are new.
func (d *Desk) Only(before []int64, may ...int64) {
	d.t.Helper()
	for i, v := range d.All() {
		if from := int64(i+1) - d.Object; !slices.Contains(may, from) && (i >= len(before) || before[i] != v) {
			d.t.Errorf("the cell %d from the object on is changed to %d", from, v)
		}
	}
}

// Parks tells a fault if others than these threads park.
func (d *Desk) Parks(want ...int) {
	d.t.Helper()
	for i := range api.MaxThreads {
		x, err := d.P.At(i)
		d.Fine(err)
		if x.Blocked != slices.Contains(want, i) {
			d.t.Errorf("thread %d parks: %v; those that should are %v; events %v", i, x.Blocked, want, d.events)
		}
	}
}

// Held is how the object stands by the marks of all calls. It ends the test if what came of them may not have been.
func (d *Desk) Held() api.Thing {
	d.t.Helper()
	l, err := replay.Run(d.s, d.events)
	if err != nil || len(l) != 1 {
		d.t.Fatalf("%v, %v of events %v", l, err, d.events)
	}
	return l[0]
}

// Has tells a fault if a text hasn't these labels, each of an instruction, or goes to others than its own and the queue's.
func Has(t Tester, text string, labels ...string) {
	t.Helper()
	code, l, err := asm.Assemble(text, "queue.enq:\nqueue.cancel:\nqueue.unps:\nqueue.rel:\nqueue.share:\nqueue.pred:\nqueue.try:\nqueue.acq:\nqueue.again:\nret")
	if err != nil {
		t.Fatalf("%v", err)
	}
	for _, name := range labels {
		if at := asm.Find(l, name); at < 0 || at >= len(code)-1 {
			t.Errorf("%s is at %d of %d instructions", name, at, len(code)-1)
		}
	}
}
