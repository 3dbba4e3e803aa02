package lock_test

import (
	"reflect"
	"testing"

	"thole/api"
	"thole/desk"
	"thole/lock"
)

// The desk's words, in short.
type came = desk.Came

const parked = desk.Parked

var note = desk.Note

// lockDesk is a desk of a Lock.
type lockDesk struct {
	*desk.Desk
	t *testing.T
}

// stand is how a Lock stands: whose it is (0: nobody's; else a thread's number and 1), and how often it is held.
type stand struct{ owner, holds int64 }

// opens is a desk of a Lock of nobody.
func opens(t *testing.T, fair bool) lockDesk {
	t.Helper()
	return lockDesk{desk.Open(t, api.Object{Kind: api.Lock, Fair: fair}, lock.Code()), t}
}

// stands is how the Lock stands.
func (d lockDesk) stands() stand {
	d.t.Helper()
	l := d.Cells(d.Object+2, 2)
	return stand{l[1], l[0]}
}

// sets makes it stand so.
func (d lockDesk) sets(x stand) {
	d.t.Helper()
	d.Put(d.Object+2, x.holds, x.owner)
}

// at tells a fault if the Lock stands otherwise.
func (d lockDesk) at(want stand) {
	d.t.Helper()
	d.At(2, want.holds, want.owner)
}

// held tells a fault if what came of all calls may not have been, or the Lock stands otherwise behind it.
func (d lockDesk) held() {
	d.t.Helper()
	x := d.Held()
	want := api.Thing{Kind: api.Lock, Owner: int(d.stands().owner - 1), Holds: int(d.stands().holds), Offer: -1}
	if x.Waiters = nil; !reflect.DeepEqual(x, want) {
		d.t.Errorf("by its marks it stands as %+v; by its cells as %+v", x, want)
	}
}
