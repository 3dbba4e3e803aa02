package model

import (
	"slices"

	"thole/api"
)

// may tells whether a thread may do what a mark says.
func may(x api.Thing, t int, m api.Note) bool {
	if t < 0 || t >= api.MaxThreads {
		return false
	}
	switch x.Kind {
	case api.Lock:
		return lockMay(x, t, m) || isQuit(m)
	case api.Sema:
		return semaMay(int64(x.N), m) || isQuit(m)
	case api.Latch:
		return latchMay(x.N, m) || isQuit(m)
	case api.RW:
		return rwMay(x, t, m) || isQuit(m)
	case api.Swap:
		return swapMay(x, t, m) || isQuit(m)
	}
	return false
}

// isQuit tells whether it is the mark of one that gives up, which may be at all times.
func isQuit(m api.Note) bool { return m.Kind == api.MkQuit && m.Value == 0 }

// lockMay is may, of a Lock, but for those that give up.
func lockMay(x api.Thing, t int, m api.Note) bool {
	v := m.Value
	switch m.Kind {
	case api.MkTake:
		return isFor(x, t, v) || v == 1 && isOnceMore(x, t)
	case api.MkFree:
		return v == 0 && x.Owner == t
	case api.MkFail:
		return v == 0 && isOthers(x, t)
	case api.MkMonitor:
		return v == 0 && x.Owner != t
	case api.MkOver:
		return v == 0 && isHeldOut(x, t)
	case api.MkWait:
		return x.Owner == t && int64(x.Holds) == v
	case api.MkSignal:
		return x.Owner == t && len(x.Waiters) > 0 && int64(x.Waiters[0].Thread) == v
	case api.MkNone:
		return v == 0 && x.Owner == t && len(x.Waiters) == 0
	case api.MkCancel:
		return v == 0 && isWaiting(x, t)
	}
	return false
}

// semaMay is may, of a Sema of n permits, but for those that give up. It is the same for all threads.
func semaMay(n int64, m api.Note) bool {
	v := m.Value
	switch m.Kind {
	case api.MkTake:
		return v >= 1 && v <= n
	case api.MkFree:
		return v >= 1 && !isOver(n, v)
	case api.MkOver:
		return v >= 1 && isOver(n, v)
	case api.MkFail:
		return v > n
	case api.MkDrain:
		return v == n
	}
	return false
}

// latchMay is may, of a Latch of count n, but for those that give up. It is the same for all threads.
func latchMay(n int, m api.Note) bool {
	v := m.Value
	switch m.Kind {
	case api.MkTake:
		return v == 0 && n == 0
	case api.MkDown:
		return v == 1 && n > 0 || v == 0 && n == 0
	}
	return false
}

// rwMay is may, of a RW, but for those that give up. Of marks of both sides the value is 0 for those that write, and 1 for those that read.
func rwMay(x api.Thing, t int, m api.Note) bool {
	v := m.Value
	switch m.Kind {
	case api.MkTake:
		return v == 1 && (x.Owner == nobody && together(x) == 0 || isOnceMore(x, t))
	case api.MkFree:
		return v == 0 && x.Owner == t
	case api.MkRead:
		return v == 0 && !isOthers(x, t) && together(x) < api.MaxCount
	case api.MkUnread:
		return v == 0 && x.Reads[t] > 0
	case api.MkFail:
		return v == 0 && (isOthers(x, t) || x.Owner == nobody && together(x) > 0) || v == 1 && isOthers(x, t)
	case api.MkMonitor:
		return v == 0 && x.Owner != t || v == 1 && x.Reads[t] == 0
	case api.MkOver:
		return v == 0 && isHeldOut(x, t) || v == 1 && together(x) == api.MaxCount
	}
	return false
}

// swapMay is may, of a Swap, but for those that give up.
func swapMay(x api.Thing, t int, m api.Note) bool {
	v := m.Value
	switch m.Kind {
	case api.MkOffer:
		return x.Offer == nobody && v >= 0 && v <= api.MaxCount
	case api.MkSwap:
		return int64(x.Offer) == v && x.Offer != nobody && x.Offer != t
	case api.MkBack:
		return v == 0 && x.Offer == t
	}
	return false
}

// isFor tells whether a Lock may be taken v times at once. Who waits for a signal has to wait on.
func isFor(x api.Thing, t int, v int64) bool {
	return x.Owner == nobody && v >= 1 && v <= api.MaxCount && !isWaiting(x, t)
}

// isOnceMore tells whether the thread holds it, and may do so once more.
func isOnceMore(x api.Thing, t int) bool { return x.Owner == t && x.Holds < api.MaxCount }

// isHeldOut tells whether the thread holds it just as often as can be.
func isHeldOut(x api.Thing, t int) bool { return x.Owner == t && x.Holds == api.MaxCount }

// isOthers tells whether another thread holds it.
func isOthers(x api.Thing, t int) bool { return x.Owner != nobody && x.Owner != t }

// isWaiting tells whether the thread waits for a signal.
func isWaiting(x api.Thing, t int) bool {
	return slices.ContainsFunc(x.Waiters, func(w api.Waiter) bool { return w.Thread == t })
}

// isOver tells whether n and v, which is above 0, are more together than may be. They aren't added, for the sum may wrap round.
func isOver(n, v int64) bool { return n > api.MaxCount-v }

// together is how often all threads read. A thing that no call told may have any numbers, so they are added in halves, which can't wrap round; a sum that is no number of 32 bits is told as one that is below 0, or above MaxCount, for no more is asked of it.
func together(x api.Thing) int64 {
	const half, low = 32, 1<<32 - 1
	highs, lows := int64(0), int64(0)
	for _, n := range x.Reads {
		highs += int64(n) >> half
		lows += int64(n) & low
	}
	highs += lows >> half
	switch {
	case highs < 0:
		return -1
	case highs > 0:
		return api.MaxCount + 1
	}
	return lows & low
}
