package sema_test

import (
	"reflect"
	"testing"

	"thole/api"
	"thole/desk"
	"thole/sema"
)

// The desk's words, in short.
type came = desk.Came

const parked = desk.Parked

var note = desk.Note

// semaDesk is a desk of a Sema.
type semaDesk struct {
	*desk.Desk
	t *testing.T
}

// opens is a desk of a Sema of so many permits.
func opens(t *testing.T, fair bool, permits int64) semaDesk {
	t.Helper()
	return semaDesk{desk.Open(t, api.Object{Kind: api.Sema, Fair: fair, N: int(permits)}, sema.Code()), t}
}

// permits is how many are there.
func (d semaDesk) permits() int64 {
	d.t.Helper()
	return d.Cells(d.Object+2, 1)[0]
}

// at tells a fault if others are there.
func (d semaDesk) at(permits int64) {
	d.t.Helper()
	d.At(2, permits)
}

// held tells a fault if what came of all calls may not have been, or others are there behind it.
func (d semaDesk) held() {
	d.t.Helper()
	x := d.Held()
	want := api.Thing{Kind: api.Sema, N: int(d.permits()), Owner: -1, Offer: -1}
	if x.Waiters = nil; !reflect.DeepEqual(x, want) {
		d.t.Errorf("by its marks it stands as %+v; by its cells as %+v", x, want)
	}
}
