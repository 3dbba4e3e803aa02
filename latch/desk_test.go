package latch_test

import (
	"reflect"
	"testing"

	"thole/api"
	"thole/desk"
	"thole/latch"
)

// The desk's words, in short.
type came = desk.Came

const parked = desk.Parked

var note = desk.Note

// latchDesk is a desk of a Latch.
type latchDesk struct {
	*desk.Desk
	t *testing.T
}

// opens is a desk of a Latch of that count.
func opens(t *testing.T, count int64) latchDesk {
	t.Helper()
	return latchDesk{desk.Open(t, api.Object{Kind: api.Latch, N: int(count)}, latch.Code()), t}
}

// count is what its count is.
func (d latchDesk) count() int64 {
	d.t.Helper()
	return d.Cells(d.Object+2, 1)[0]
}

// at tells a fault if its count is another one.
func (d latchDesk) at(count int64) {
	d.t.Helper()
	d.At(2, count)
}

// held tells a fault if what came of all calls may not have been, or the count is another one behind it.
func (d latchDesk) held() {
	d.t.Helper()
	x := d.Held()
	want := api.Thing{Kind: api.Latch, N: int(d.count()), Owner: -1, Offer: -1}
	if x.Waiters = nil; !reflect.DeepEqual(x, want) {
		d.t.Errorf("by its marks it stands as %+v; by its cells as %+v", x, want)
	}
}

// stillParks wakes threads, if they weren't unparked by something, and tells a fault unless each parks again.
func (d latchDesk) stillParks(threads ...int) {
	d.t.Helper()
	for _, i := range threads {
		d.Fine(d.P.Wake(i))
		d.Is(d.Goes(i), parked)
	}
}
