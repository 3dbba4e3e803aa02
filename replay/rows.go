package replay

import (
	"slices"

	"thole/api"
	"thole/prog"
)

// met stands among the marks of a call that offers, for another thread's Swap of it. It is no kind of a mark, so no event has it.
const met = 0

// row is marks that a call may have, and what it comes to with them.
type row struct {
	look  look
	comes func(result int) bool
}

// look goes through the marks of a call, so far: whether a row begins with them, and whether they are all of it.
type look func(l []api.Note) (begins, whole bool)

// fits tells whether a mark may stand at one place of a row.
type fits func(m api.Note) bool

// someBegins tells whether one of the rows begins with these marks.
func someBegins(rows []row, l []api.Note) bool {
	return slices.ContainsFunc(rows, func(r row) bool {
		begins, _ := r.look(l)
		return begins
	})
}

// someComes tells whether these marks are all of one of the rows, and the call may come to that result with them.
func someComes(rows []row, l []api.Note, result int) bool {
	return slices.ContainsFunc(rows, func(r row) bool {
		_, whole := r.look(l)
		return whole && r.comes(result)
	})
}

// to are these results alone.
func to(results ...int) func(int) bool {
	return func(result int) bool { return slices.Contains(results, result) }
}

// marks are so many marks, one behind the other.
func marks(places ...fits) look {
	return func(l []api.Note) (bool, bool) {
		if len(l) > len(places) {
			return false, false
		}
		for i, m := range l {
			if !places[i](m) {
				return false, false
			}
		}
		return true, len(l) == len(places)
	}
}

// many are any many marks, and a last one behind them.
func many(each, last fits) look {
	return func(l []api.Note) (bool, bool) {
		for i, m := range l {
			if last(m) {
				return i == len(l)-1, i == len(l)-1
			}
			if !each(m) {
				return false, false
			}
		}
		return true, false
	}
}

// just fits one mark.
func just(kind, v int) fits {
	return func(m api.Note) bool { return m.Kind == kind && m.Value == int64(v) }
}

// of fits marks of a kind, whose value is left to the model.
func of(kind int) fits {
	return func(m api.Note) bool { return m.Kind == kind }
}

// rowsOf are the rows of a call of an object of that kind.
func rowsOf(o api.Op, kind int) []row {
	if prog.Of(o.Kind) != kind {
		return []row{{marks(), to(api.Unusable)}}
	}
	switch o.Kind {
	case api.OpWait, api.OpSignal, api.OpSignalAll:
		return signalRows(o)
	case api.OpAcquire, api.OpTrySome, api.OpRelease, api.OpDrain:
		return semaRows(o)
	case api.OpAwait, api.OpDown:
		return latchRows(o)
	case api.OpRead, api.OpTryRead, api.OpUnread:
		return readRows(o)
	case api.OpSwap:
		return swapRows(o)
	}
	return holdRows(o)
}

// waiting are the rows of all calls that may wait, but OpWait, ahead of those of their own.
func waiting(own ...row) []row {
	return append([]row{
		{marks(of(api.MkQuit)), to(api.Broken, api.Late)},
		{marks(), to(api.Full)},
	}, own...)
}

// holdRows are the rows of calls that hold a Lock, or a RW to write.
func holdRows(o api.Op) []row {
	take := row{marks(just(api.MkTake, 1)), to(api.Good)}
	over := row{marks(just(api.MkOver, 0)), to(api.Over)}
	switch o.Kind {
	case api.OpLock, api.OpWrite:
		return waiting(take, over)
	case api.OpTry, api.OpTryWrite:
		return []row{take, over, {marks(just(api.MkFail, 0)), to(api.Bad)}}
	}
	return []row{
		{marks(just(api.MkFree, 0)), to(api.Good)},
		{marks(just(api.MkMonitor, 0)), to(api.Monitor)},
	}
}

// readRows are the rows of calls that hold a RW to read.
func readRows(o api.Op) []row {
	read := row{marks(just(api.MkRead, 0)), to(api.Good)}
	over := row{marks(just(api.MkOver, 1)), to(api.Over)}
	switch o.Kind {
	case api.OpRead:
		return waiting(read, over)
	case api.OpTryRead:
		return []row{read, over, {marks(just(api.MkFail, 1)), to(api.Bad)}}
	}
	return []row{
		{marks(just(api.MkUnread, 0)), to(api.Good)},
		{marks(just(api.MkMonitor, 1)), to(api.Monitor)},
	}
}

// semaRows are the rows of calls of a Sema.
func semaRows(o api.Op) []row {
	take := row{marks(just(api.MkTake, o.N)), to(api.Good)}
	switch o.Kind {
	case api.OpAcquire:
		return waiting(take)
	case api.OpTrySome:
		return []row{take, {marks(just(api.MkFail, o.N)), to(api.Bad)}}
	case api.OpRelease:
		return []row{
			{marks(just(api.MkFree, o.N)), to(api.Good)},
			{marks(just(api.MkOver, o.N)), to(api.Over)},
		}
	}
	return []row{{marks(of(api.MkDrain)), to(api.Good)}}
}

// latchRows are the rows of calls of a Latch.
func latchRows(o api.Op) []row {
	if o.Kind == api.OpAwait {
		return waiting(row{marks(just(api.MkTake, 0)), to(api.Good)})
	}
	return []row{{marks(of(api.MkDown)), to(api.Good)}}
}

// signalRows are the rows of calls that wait for a signal, or give it.
func signalRows(o api.Op) []row {
	monitor := row{marks(just(api.MkMonitor, 0)), to(api.Monitor)}
	switch o.Kind {
	case api.OpWait:
		return append(waitRows(), monitor)
	case api.OpSignal:
		return []row{monitor, {marks(of(api.MkSignal)), to(api.Good)}, {marks(of(api.MkNone)), to(api.Good)}}
	}
	return []row{monitor, {many(of(api.MkSignal), of(api.MkNone)), to(api.Good)}}
}

// waitRows are the rows of OpWait, but of who doesn't hold the lock. It is taken as often as it was held.
func waitRows() []row {
	held := int64(0)
	wait := func(m api.Note) bool {
		held = m.Value
		return m.Kind == api.MkWait
	}
	take := func(m api.Note) bool { return m.Kind == api.MkTake && m.Value == held }
	return []row{
		{marks(of(api.MkQuit)), to(api.Broken)},
		{marks(), to(api.Full)},
		{marks(wait, take), to(api.Good)},
		{marks(wait, just(api.MkCancel, 0), take), to(api.Broken, api.Late)},
	}
}

// swapRows are the rows of OpSwap.
func swapRows(o api.Op) []row {
	offer := just(api.MkOffer, o.N)
	return waiting(
		row{marks(of(api.MkSwap)), to(api.Good)},
		row{marks(offer, of(met)), to(api.Good)},
		row{marks(offer, of(api.MkBack)), to(api.Broken, api.Late)},
	)
}
