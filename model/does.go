package model

import (
	"slices"

	"thole/api"
)

// does does what a mark says, that may be. A mark that isn't here changes nothing.
func does(x *api.Thing, t int, m api.Note) {
	switch x.Kind {
	case api.Lock, api.RW:
		heldDoes(x, t, m)
	case api.Sema, api.Latch:
		countDoes(x, m)
	case api.Swap:
		swapDoes(x, t, m)
	}
}

// heldDoes is does, of a Lock and of a RW.
func heldDoes(x *api.Thing, t int, m api.Note) {
	switch m.Kind {
	case api.MkTake:
		take(x, t, m.Value)
	case api.MkFree:
		free(x)
	case api.MkRead:
		x.Reads[t]++
	case api.MkUnread:
		x.Reads[t]--
	case api.MkWait:
		x.Waiters = append(x.Waiters, api.Waiter{Thread: t, Holds: x.Holds})
		x.Owner, x.Holds = nobody, 0
	case api.MkSignal:
		// One that waits twice waits on.
		x.Waiters = slices.Delete(x.Waiters, 0, 1)
	case api.MkCancel:
		// One that waits twice waits no more.
		x.Waiters = slices.DeleteFunc(x.Waiters, func(w api.Waiter) bool { return w.Thread == t })
	}
}

// take gives it to the thread, so often (a RW is taken once at a time), or once more.
func take(x *api.Thing, t int, v int64) {
	if x.Kind == api.Lock && x.Owner == nobody {
		x.Owner, x.Holds = t, int(v)
		return
	}
	x.Owner = t
	x.Holds++
}

// free frees it once.
func free(x *api.Thing) {
	x.Holds--
	if x.Holds == 0 {
		x.Owner = nobody
	}
}

// countDoes is does, of a Sema and of a Latch.
func countDoes(x *api.Thing, m api.Note) {
	switch m.Kind {
	case api.MkTake, api.MkDown, api.MkDrain:
		x.N -= int(m.Value)
	case api.MkFree:
		x.N += int(m.Value)
	}
}

// swapDoes is does, of a Swap.
func swapDoes(x *api.Thing, t int, m api.Note) {
	switch m.Kind {
	case api.MkOffer:
		x.Offer, x.Item = t, int(m.Value)
	case api.MkSwap, api.MkBack:
		x.Offer, x.Item = nobody, 0
	}
}
