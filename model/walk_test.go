package model_test

import (
	"math/rand"
	"testing"

	"thole/api"
	"thole/model"
)

// This file holds P10.4 against things that long rows of marks come to.

// walk does marks by chance, of each kind of thing, and shows each thing on the way.
func walk(t *testing.T, see func(first, x api.Thing)) {
	t.Helper()
	r := rand.New(rand.NewSource(10))
	for _, o := range []api.Object{
		{Kind: api.Lock}, {Kind: api.RW}, {Kind: api.Swap}, {Kind: api.Sema}, {Kind: api.Sema, N: 7}, {Kind: api.Sema, N: 1000},
		{Kind: api.Latch}, {Kind: api.Latch, N: 20}, {Kind: api.Latch, N: 1000}, {Kind: api.Sema, N: 1500}, {Kind: api.Latch, N: 1500},
	} {
		first := model.New(o)
		for range 8 {
			x, few := first, 1+r.Intn(api.MaxThreads)
			for range 1000 {
				m := api.Note{Kind: 1 + r.Intn(api.MkQuit), Value: number(r, x)}
				x, _ = do(t, x, r.Intn(few), m)
				see(first, x)
			}
		}
	}
}

// number is a value by chance, of those that often may be.
func number(r *rand.Rand, x api.Thing) int64 {
	switch r.Intn(6) {
	case 0, 1:
		return int64(r.Intn(3))
	case 2:
		return int64(r.Intn(api.MaxThreads))
	case 3:
		return int64(x.Holds)
	case 4:
		return int64(x.N)
	}
	return int64(r.Intn(api.MaxCount+20) - 10)
}

// P10.4: counts stay where they may be, and Owner is -1 just if Holds is 0.
func TestCountsStay(t *testing.T) {
	walk(t, func(first, x api.Thing) {
		all, upTo := 0, max(api.MaxCount, first.N)
		for _, n := range x.Reads {
			if n < 0 {
				t.Fatalf("a thread reads so often: %+v", x)
			}
			all += n
		}
		if all > api.MaxCount || x.N < 0 || x.N > upTo || x.Holds < 0 || x.Holds > api.MaxCount || x.Item < 0 || x.Item > api.MaxCount {
			t.Fatalf("a count isn't one: %+v", x)
		}
		if (x.Owner == -1) != (x.Holds == 0) || x.Kind != first.Kind {
			t.Fatalf("an owner without holds, or holds without one: %+v", x)
		}
		seen := [api.MaxThreads]bool{}
		for _, w := range x.Waiters {
			if seen[w.Thread] || w.Thread == x.Owner || w.Holds < 1 || w.Holds > api.MaxCount {
				t.Fatalf("one waits twice, or holds the lock, or held it so often: %+v", x)
			}
			seen[w.Thread] = true
		}
	})
}

// pairs are marks that take, and those that free. A Lock that was taken several times at once is freed as often.
var pairs = []struct {
	of, take, free int
	same           bool // the one that frees has the value of the one that takes
}{
	{api.Lock, api.MkTake, api.MkFree, false},
	{api.Sema, api.MkTake, api.MkFree, true},
	{api.RW, api.MkTake, api.MkFree, false},
	{api.RW, api.MkRead, api.MkUnread, false},
	{api.Swap, api.MkOffer, api.MkBack, false},
}

// P10.4: what was taken, and is freed, is as it was.
func TestTakenAndFreed(t *testing.T) {
	r, count := rand.New(rand.NewSource(4)), 0
	walk(t, func(first, x api.Thing) {
		p := pairs[r.Intn(len(pairs))]
		if p.of != x.Kind {
			return
		}
		i, v := r.Intn(api.MaxThreads), int64(r.Intn(4))
		y, is := do(t, x, i, api.Note{Kind: p.take, Value: v})
		if !is || x.Kind == api.Sema && x.N > api.MaxCount {
			return
		}
		m, times := api.Note{Kind: p.free}, 1
		if p.same {
			m.Value = v
		}
		if p.of == api.Lock {
			times = y.Holds - x.Holds
		}
		for range times {
			if y, is = do(t, y, i, m); !is {
				t.Fatalf("what thread %d took of %+v it may not free", i, x)
			}
		}
		count++
		if !alike(x, y) {
			t.Fatalf("taken, by mark %d of %d, and freed: %+v; want %+v", p.take, v, y, x)
		}
	})
	if count < 1000 {
		t.Errorf("only %d were taken and freed", count)
	}
}

// awaited are calls that may go on, and the marks that they wait for, but for the value of the last one.
var awaited = []struct {
	of int
	o  api.Op
	m  api.Note
}{
	{api.Lock, api.Op{Kind: api.OpLock}, api.Note{Kind: api.MkTake, Value: 1}},
	{api.Sema, api.Op{Kind: api.OpAcquire, N: 3}, api.Note{Kind: api.MkTake, Value: 3}},
	{api.Latch, api.Op{Kind: api.OpAwait}, api.Note{Kind: api.MkTake}},
	{api.RW, api.Op{Kind: api.OpWrite}, api.Note{Kind: api.MkTake, Value: 1}},
	{api.RW, api.Op{Kind: api.OpRead}, api.Note{Kind: api.MkRead}},
	{api.Swap, api.Op{Kind: api.OpSwap}, api.Note{Kind: api.MkSwap}},
}

// P10.4: what can go on may be done; what can't may not.
func TestWhatCanGoOn(t *testing.T) {
	goes, stays, i := 0, 0, 0
	walk(t, func(first, x api.Thing) {
		i = (i + 1) % api.MaxThreads
		for _, a := range awaited {
			is := can(t, x, i, a.o)
			if a.m.Kind == api.MkSwap {
				a.m.Value = int64(x.Offer)
			}
			_, may := do(t, x, i, a.m)
			if may = may && a.of == x.Kind; is != may {
				t.Fatalf("Can(%+v, %d, %+v) = %v; the mark may be done: %v", x, i, a.o, is, may)
			}
			switch {
			case is:
				goes++
			case a.of == x.Kind:
				stays++
			}
		}
	})
	if goes < 1000 || stays < 1000 {
		t.Errorf("%d can go on, %d can't", goes, stays)
	}
}
