package model_test

import (
	"math"
	"reflect"
	"slices"
	"strconv"
	"testing"

	"thole/api"
	"thole/model"
)

const (
	most  = math.MaxInt64
	least = math.MinInt64
)

// Numbers that every thing is tried with: threads, kinds of marks and values, with what lies beside both ends of what may be.
var (
	threads = []int{0, 1, 2, 3, 4, 5, 6, 7}
	none    = []int{least, -1 << 32, -8, -2, -1, 8, 9, 16, 1 << 32, 1<<32 + 1, most}
	noMarks = []int{least, -17, -1, 0, 18, 19, 33, 257, 1<<32 + 1, most}
	values  = []int64{
		least, least + 1, -1 << 32, -1001, -1000, -999, -8, -3, -2, -1, 0, 1, 2, 3, 4, 5, 6, 7, 8, 9, 400, 401, 599, 600, 601,
		998, 999, 1000, 1001, 1002, 1 << 16, 1<<32 - 1, 1 << 32, 1<<32 + 1, 1<<32 + 2, most - 1000, most - 1, most,
	}
)

// among are the values that lie between both, and they themselves.
func among(from, to int64) []int64 {
	return slices.DeleteFunc(slices.Clone(values), func(v int64) bool { return v < from || v > to })
}

// only is a list of these values.
func only(l ...int64) []int64 { return l }

// by is a list of these threads.
func by(l ...int) []int { return l }

// but are all threads but these.
func but(l ...int) []int {
	return slices.DeleteFunc(slices.Clone(threads), func(t int) bool { return slices.Contains(l, t) })
}

// allows is a mark that may be: by whom, of which values, and what it does (nil: nothing).
type allows struct {
	by     []int
	kind   int
	values []int64
	does   func(x *api.Thing, t int, v int64)
}

// thing is one that stands as New tells it, but for what change does.
func thing(kind, n int, change func(x *api.Thing)) api.Thing {
	x := model.New(api.Object{Kind: kind, N: n})
	if change != nil {
		change(&x)
	}
	return x
}

// held is a Lock or a RW that the thread holds so often.
func held(kind, t, holds int) api.Thing {
	return thing(kind, 0, func(x *api.Thing) { x.Owner, x.Holds = t, holds })
}

// awaiting is a thing for which these wait.
func awaiting(x api.Thing, l ...api.Waiter) api.Thing {
	x.Waiters = l
	return x
}

// reading is a thing that is read so often, by threads 0 and up.
func reading(x api.Thing, l ...int) api.Thing {
	copy(x.Reads[:], l)
	return x
}

// spare is what stands in a list behind its end.
var spare = api.Waiter{Thread: 77, Holds: 78}

// copied is the same thing, with a list of its own that has room for more.
func copied(x api.Thing) api.Thing {
	l := append([]api.Waiter{}, x.Waiters...)
	x.Waiters = append(l, spare, spare, spare)[:len(l)]
	return x
}

// alike tells whether two things are the same, be a list of nothing nil or empty.
func alike(x, y api.Thing) bool {
	same := slices.Equal(x.Waiters, y.Waiters)
	x.Waiters, y.Waiters = nil, nil
	return same && reflect.DeepEqual(x, y)
}

// do is Do, of a copy; it tells a fault if that is changed, or what comes of it has any memory of it.
func do(t *testing.T, x api.Thing, i int, m api.Note) (api.Thing, bool) {
	t.Helper()
	in := copied(x)
	y, is := model.Do(in, i, m)
	told := copied(y)
	l := y.Waiters[:cap(y.Waiters)]
	for k := range l {
		l[k] = api.Waiter{Thread: 99, Holds: 99}
	}
	want := copied(x)
	if !alike(in, want) || !slices.Equal(in.Waiters[:cap(want.Waiters)], want.Waiters[:cap(want.Waiters)]) {
		t.Fatalf("Do(%+v, %d, %v) changed what was handed in, or shares its memory", x, i, m)
	}
	return told, is
}

// refused tells a fault if it may be done, or the thing isn't told as it was.
func refused(t *testing.T, x api.Thing, i int, m api.Note) {
	t.Helper()
	if y, is := do(t, x, i, m); is || !alike(x, y) {
		t.Errorf("Do(%+v, %d, %v) = %+v, %v; want it as it was, false", x, i, m, y, is)
	}
}

// comes tells a fault if it may not be done, or doesn't come to that.
func comes(t *testing.T, x api.Thing, i int, m api.Note, want api.Thing) {
	t.Helper()
	if y, is := do(t, x, i, m); !is || !alike(y, want) {
		t.Errorf("Do(%+v, %d, %v) = %+v, %v; want %+v, true", x, i, m, y, is, want)
	}
}

// tries is every mark of every value by every thread, there or not.
func tries(f func(i int, m api.Note)) {
	marks := slices.Clone(noMarks)
	for k := api.MkTake; k <= api.MkQuit; k++ {
		marks = append(marks, k)
	}
	for _, i := range slices.Concat(threads, none) {
		for _, k := range marks {
			for _, v := range values {
				f(i, api.Note{Kind: k, Value: v})
			}
		}
	}
}

// just tells a fault if the thing allows other marks than these, and to give up, or if they do something else.
func just(t *testing.T, x api.Thing, l ...allows) {
	t.Helper()
	l = append(l, allows{threads, api.MkQuit, only(0), nil})
	tries(func(i int, m api.Note) {
		for _, a := range l {
			if a.kind == m.Kind && slices.Contains(a.by, i) && slices.Contains(a.values, m.Value) {
				want := copied(x)
				if a.does != nil {
					a.does(&want, i, m.Value)
				}
				comes(t, x, i, m, want)
				return
			}
		}
		refused(t, x, i, m)
	})
}

// What marks do, told as the chapter tells it.

func takes(x *api.Thing, t int, v int64) { x.Owner, x.Holds = t, int(v) }

func takesMore(x *api.Thing, t int, v int64) { x.Owner, x.Holds = t, x.Holds+1 }

func freesOne(x *api.Thing, t int, v int64) { x.Holds-- }

func freesAll(x *api.Thing, t int, v int64) { x.Owner, x.Holds = -1, 0 }

func waits(x *api.Thing, t int, v int64) {
	x.Waiters = append(x.Waiters, api.Waiter{Thread: t, Holds: int(v)})
	x.Owner, x.Holds = -1, 0
}

// leaves are these of whom one waited, and doesn't any more.
func leaves(l ...api.Waiter) func(x *api.Thing, t int, v int64) {
	return func(x *api.Thing, t int, v int64) { x.Waiters = l }
}

func reads(x *api.Thing, t int, v int64) { x.Reads[t]++ }

func unreads(x *api.Thing, t int, v int64) { x.Reads[t]-- }

func lowers(x *api.Thing, t int, v int64) { x.N -= int(v) }

func raises(x *api.Thing, t int, v int64) { x.N += int(v) }

func drains(x *api.Thing, t int, v int64) { x.N = 0 }

func offers(x *api.Thing, t int, v int64) { x.Offer, x.Item = t, int(v) }

func withdraws(x *api.Thing, t int, v int64) { x.Offer, x.Item = -1, 0 }

// P10.1: a thing at first, of all kinds of objects, and of what is none.
func TestNew(t *testing.T) {
	for _, kind := range []int{least, -1, 0, api.Lock, api.Sema, api.Latch, api.RW, api.Swap, 6, 99, most} {
		for _, n := range []int{0, 1, 2, 500, 999, 1000, 1001, -1, least, most} {
			for _, fair := range []bool{false, true} {
				x := model.New(api.Object{Kind: kind, Fair: fair, N: n})
				if want := (api.Thing{Kind: kind, N: n, Owner: -1, Offer: -1}); !alike(x, want) {
					t.Errorf("New of kind %d, %v, %d = %+v, want %+v", kind, fair, n, x, want)
				}
			}
		}
	}
}

// P10.1: the chapter's example.
func TestExample(t *testing.T) {
	comes(t, model.New(api.Object{Kind: api.Lock}), 3, api.Note{Kind: api.MkTake, Value: 1}, api.Thing{Kind: api.Lock, Owner: 3, Holds: 1, Offer: -1})
}

// P10.1: a Lock that nobody holds; who waits for a signal may not take it.
func TestLockOfNobody(t *testing.T) {
	x := thing(api.Lock, 0, nil)
	just(t, x,
		allows{threads, api.MkTake, among(1, 1000), takes},
		allows{threads, api.MkMonitor, only(0), nil})
	l := []api.Waiter{{Thread: 5, Holds: 1000}, {Thread: 0, Holds: 2}, {Thread: 7, Holds: 1}}
	just(t, awaiting(x, l...),
		allows{but(0, 5, 7), api.MkTake, among(1, 1000), takes},
		allows{threads, api.MkMonitor, only(0), nil},
		allows{by(5), api.MkCancel, only(0), leaves(l[1], l[2])},
		allows{by(0), api.MkCancel, only(0), leaves(l[0], l[2])},
		allows{by(7), api.MkCancel, only(0), leaves(l[0], l[1])})
	just(t, awaiting(x, l[1]),
		allows{but(0), api.MkTake, among(1, 1000), takes},
		allows{threads, api.MkMonitor, only(0), nil},
		allows{by(0), api.MkCancel, only(0), leaves()})
}

// P10.1: a Lock that a thread holds, of each number of holds that is an edge.
func TestLockThatIsHeld(t *testing.T) {
	for _, i := range []int{0, 2, 7} {
		for _, holds := range []int{1, 2, 400, 999, 1000} {
			l := []allows{
				{by(i), api.MkWait, only(int64(holds)), waits},
				{by(i), api.MkNone, only(0), nil},
				{but(i), api.MkFail, only(0), nil},
				{but(i), api.MkMonitor, only(0), nil},
			}
			if holds < 1000 {
				l = append(l, allows{by(i), api.MkTake, only(1), takesMore})
			} else {
				l = append(l, allows{by(i), api.MkOver, only(0), nil})
			}
			if holds > 1 {
				l = append(l, allows{by(i), api.MkFree, only(0), freesOne})
			} else {
				l = append(l, allows{by(i), api.MkFree, only(0), freesAll})
			}
			just(t, held(api.Lock, i, holds), l...)
		}
	}
}

// P10.1: a Lock that a thread holds, and others wait for a signal, who go in their order.
func TestLockThatSomeWaitFor(t *testing.T) {
	l := []api.Waiter{{Thread: 6, Holds: 3}, {Thread: 0, Holds: 1000}, {Thread: 3, Holds: 1}}
	just(t, awaiting(held(api.Lock, 1, 2), l...),
		allows{by(1), api.MkTake, only(1), takesMore},
		allows{by(1), api.MkFree, only(0), freesOne},
		allows{by(1), api.MkWait, only(2), waits},
		allows{by(1), api.MkSignal, only(6), leaves(l[1], l[2])},
		allows{but(1), api.MkFail, only(0), nil},
		allows{but(1), api.MkMonitor, only(0), nil},
		allows{by(6), api.MkCancel, only(0), leaves(l[1], l[2])},
		allows{by(0), api.MkCancel, only(0), leaves(l[0], l[2])},
		allows{by(3), api.MkCancel, only(0), leaves(l[0], l[1])})
	just(t, awaiting(held(api.Lock, 7, 1000), l[1]),
		allows{by(7), api.MkOver, only(0), nil},
		allows{by(7), api.MkFree, only(0), freesOne},
		allows{by(7), api.MkWait, only(1000), waits},
		allows{by(7), api.MkSignal, only(0), leaves()},
		allows{but(7), api.MkFail, only(0), nil},
		allows{but(7), api.MkMonitor, only(0), nil},
		allows{by(0), api.MkCancel, only(0), leaves()})
}

// P10.1: of one that waits twice, a signal ends the first time, and a cancel all of it; who holds the lock and waits may take it once more.
func TestLockThatOneWaitsForTwice(t *testing.T) {
	a, b, c := api.Waiter{Thread: 4, Holds: 1}, api.Waiter{Thread: 2, Holds: 2}, api.Waiter{Thread: 4, Holds: 3}
	just(t, awaiting(held(api.Lock, 2, 1), a, b, c),
		allows{by(2), api.MkTake, only(1), takesMore},
		allows{by(2), api.MkFree, only(0), freesAll},
		allows{by(2), api.MkWait, only(1), waits},
		allows{by(2), api.MkSignal, only(4), leaves(b, c)},
		allows{but(2), api.MkFail, only(0), nil},
		allows{but(2), api.MkMonitor, only(0), nil},
		allows{by(2), api.MkCancel, only(0), leaves(a, c)},
		allows{by(4), api.MkCancel, only(0), leaves(b)})
}

// P10.1: a Lock that no call told: held so often by one, though it is 0 times or below, or too often, or of no thread.
func TestLockThatNoCallTold(t *testing.T) {
	for _, c := range []struct {
		holds int
		v     []int64
		more  []int
	}{{0, only(0), by(3)}, {-2, only(-2), by(3)}, {1001, only(1001), nil}, {most, only(most), nil}} {
		just(t, held(api.Lock, 3, c.holds),
			allows{c.more, api.MkTake, only(1), takesMore},
			allows{by(3), api.MkFree, only(0), freesOne},
			allows{by(3), api.MkWait, c.v, waits},
			allows{by(3), api.MkNone, only(0), nil},
			allows{but(3), api.MkFail, only(0), nil},
			allows{but(3), api.MkMonitor, only(0), nil})
	}
	for _, owner := range []int{8, -2, 99} {
		just(t, held(api.Lock, owner, 1),
			allows{threads, api.MkFail, only(0), nil},
			allows{threads, api.MkMonitor, only(0), nil})
	}
	just(t, held(api.Lock, -1, 5),
		allows{threads, api.MkTake, among(1, 1000), takes},
		allows{threads, api.MkMonitor, only(0), nil})
	x := awaiting(held(api.Lock, 1, 5), api.Waiter{Thread: -1, Holds: 1}, api.Waiter{Thread: 8, Holds: 1})
	comes(t, x, 1, api.Note{Kind: api.MkSignal, Value: -1}, awaiting(x, x.Waiters[1]))
	refused(t, x, 1, api.Note{Kind: api.MkSignal, Value: 8})
	refused(t, x, 8, api.Note{Kind: api.MkCancel})
}

// P10.1: a Sema of each number of permits that is an edge, and of more than may be; the same for all threads.
func TestSema(t *testing.T) {
	for _, n := range []int64{0, 1, 2, 400, 600, 999, 1000, 1001, 1002, 1 << 32, most - 1, most} {
		above := []int64{}
		if n < most {
			above = among(n+1, most)
		}
		just(t, thing(api.Sema, int(n), nil),
			allows{threads, api.MkTake, among(1, n), lowers},
			allows{threads, api.MkFree, among(1, 1000-n), raises},
			allows{threads, api.MkOver, among(max(1, 1001-n), most), nil},
			allows{threads, api.MkFail, above, nil},
			allows{threads, api.MkDrain, only(n), drains})
	}
}

// P10.1: a Sema that no call told, of permits below 0.
func TestSemaThatNoCallTold(t *testing.T) {
	for _, n := range []int64{-1, -2, -1000} {
		just(t, thing(api.Sema, int(n), nil),
			allows{threads, api.MkFree, among(1, 1000-n), raises},
			allows{threads, api.MkOver, among(1001-n, most), nil},
			allows{threads, api.MkFail, among(n+1, most), nil},
			allows{threads, api.MkDrain, only(n), drains})
	}
	just(t, thing(api.Sema, least, nil),
		allows{threads, api.MkFree, among(1, most), raises},
		allows{threads, api.MkFail, among(least+1, most), nil},
		allows{threads, api.MkDrain, only(least), drains})
}

// P10.1: a Latch that is closed, one that is open, and one that is neither.
func TestLatch(t *testing.T) {
	just(t, thing(api.Latch, 0, nil),
		allows{threads, api.MkTake, only(0), nil},
		allows{threads, api.MkDown, only(0), nil})
	for _, n := range []int{1, 2, 3, 400, 999, 1000, 1001, most} {
		just(t, thing(api.Latch, n, nil), allows{threads, api.MkDown, only(1), lowers})
	}
	for _, n := range []int{-1, -1000, least} {
		just(t, thing(api.Latch, n, nil))
	}
}

// P10.1: a RW that nobody writes, read by none and by some.
func TestRWOfNobody(t *testing.T) {
	x := thing(api.RW, 0, nil)
	just(t, x,
		allows{threads, api.MkTake, only(1), takesMore},
		allows{threads, api.MkRead, only(0), reads},
		allows{threads, api.MkMonitor, only(0, 1), nil})
	for _, l := range [][]int{{0, 1, 0, 2}, {0, 500, 0, 499}} {
		just(t, reading(x, l...),
			allows{threads, api.MkRead, only(0), reads},
			allows{by(1, 3), api.MkUnread, only(0), unreads},
			allows{threads, api.MkFail, only(0), nil},
			allows{threads, api.MkMonitor, only(0), nil},
			allows{but(1, 3), api.MkMonitor, only(1), nil})
	}
	just(t, reading(x, 0, 0, 0, 0, 0, 0, 0, 1),
		allows{threads, api.MkRead, only(0), reads},
		allows{by(7), api.MkUnread, only(0), unreads},
		allows{threads, api.MkFail, only(0), nil},
		allows{threads, api.MkMonitor, only(0), nil},
		allows{but(7), api.MkMonitor, only(1), nil})
}

// P10.1: a RW that is read as often as may be, and more, by one and by all together.
func TestRWThatIsReadOut(t *testing.T) {
	x := thing(api.RW, 0, nil)
	for _, l := range [][]int{{1000}, {999, 1}, {125, 125, 125, 125, 125, 125, 125, 125}} {
		who := []int{}
		for i := range l {
			who = append(who, i)
		}
		just(t, reading(x, l...),
			allows{who, api.MkUnread, only(0), unreads},
			allows{threads, api.MkFail, only(0), nil},
			allows{threads, api.MkOver, only(1), nil},
			allows{threads, api.MkMonitor, only(0), nil},
			allows{but(who...), api.MkMonitor, only(1), nil})
	}
	just(t, reading(x, 1000, 1),
		allows{by(0, 1), api.MkUnread, only(0), unreads},
		allows{threads, api.MkFail, only(0), nil},
		allows{threads, api.MkMonitor, only(0), nil},
		allows{but(0, 1), api.MkMonitor, only(1), nil})
	just(t, reading(held(api.RW, 2, 1000), 1000),
		allows{by(2), api.MkFree, only(0), freesOne},
		allows{by(0), api.MkUnread, only(0), unreads},
		allows{but(2), api.MkFail, only(0, 1), nil},
		allows{by(2), api.MkOver, only(0), nil},
		allows{threads, api.MkOver, only(1), nil},
		allows{but(2), api.MkMonitor, only(0), nil},
		allows{but(0), api.MkMonitor, only(1), nil})
}

// P10.1: a RW that a thread writes, and reads or not, of each number of holds that is an edge.
func TestRWThatIsHeld(t *testing.T) {
	for _, i := range []int{0, 2, 7} {
		for _, holds := range []int{1, 2, 999, 1000} {
			l := []allows{
				{by(i), api.MkRead, only(0), reads},
				{but(i), api.MkFail, only(0, 1), nil},
				{but(i), api.MkMonitor, only(0), nil},
			}
			if holds < 1000 {
				l = append(l, allows{by(i), api.MkTake, only(1), takesMore})
			} else {
				l = append(l, allows{by(i), api.MkOver, only(0), nil})
			}
			if holds > 1 {
				l = append(l, allows{by(i), api.MkFree, only(0), freesOne})
			} else {
				l = append(l, allows{by(i), api.MkFree, only(0), freesAll})
			}
			x := held(api.RW, i, holds)
			just(t, x, append(l, allows{threads, api.MkMonitor, only(1), nil})...)
			x.Reads[i] = 3
			just(t, x, append(l,
				allows{by(i), api.MkUnread, only(0), unreads},
				allows{but(i), api.MkMonitor, only(1), nil})...)
		}
	}
}

// P10.1: a RW that no call told: of reads below 0, of a sum that is beyond 64 bits, and held too often, or of no thread.
func TestRWThatNoCallTold(t *testing.T) {
	x := thing(api.RW, 0, nil)
	for _, c := range []struct {
		l            []int
		sum          int
		unread, zero []int
	}{
		{[]int{-1, 1}, 0, by(1), but(0, 1)},
		{[]int{-2, 1}, -1, by(1), but(0, 1)},
		{[]int{2, -1}, 1, by(0), but(0, 1)},
		{[]int{1002, -1, -1}, 1000, by(0), but(0, 1, 2)},
		{[]int{1001, -1, -1}, 999, by(0), but(0, 1, 2)},
		{[]int{most, -most}, 0, by(0), but(0, 1)},
		{[]int{most, least}, -1, by(0), but(0, 1)},
		{[]int{most, least, 1001}, 1000, by(0, 2), but(0, 1, 2)},
		{[]int{most, 1}, 1001, by(0, 1), but(0, 1)},
		{[]int{most, most, 2}, 1001, by(0, 1, 2), but(0, 1, 2)},
		{[]int{least, least}, -1, nil, but(0, 1)},
		{[]int{least, least, 1}, -1, by(2), but(0, 1, 2)},
		{[]int{1 << 32}, 1001, by(0), but(0)},
		{[]int{-1 << 32}, -1, nil, but(0)},
		{[]int{1 << 31, 1 << 31, -1 << 32}, 0, by(0, 1), but(0, 1, 2)},
	} {
		l := []allows{
			{c.unread, api.MkUnread, only(0), unreads},
			{threads, api.MkMonitor, only(0), nil},
			{c.zero, api.MkMonitor, only(1), nil},
		}
		switch {
		case c.sum == 0:
			l = append(l, allows{threads, api.MkTake, only(1), takesMore})
		case c.sum > 0:
			l = append(l, allows{threads, api.MkFail, only(0), nil})
		}
		switch {
		case c.sum < 1000:
			l = append(l, allows{threads, api.MkRead, only(0), reads})
		case c.sum == 1000:
			l = append(l, allows{threads, api.MkOver, only(1), nil})
		}
		just(t, reading(x, c.l...), l...)
	}
}

// P10.1: a RW that no call told: held too often, or 0 times, or of no thread, or of nobody so often.
func TestRWThatNoCallHolds(t *testing.T) {
	for _, c := range []struct {
		holds int
		more  []int
	}{{1001, nil}, {0, by(3)}, {-2, by(3)}} {
		just(t, held(api.RW, 3, c.holds),
			allows{c.more, api.MkTake, only(1), takesMore},
			allows{by(3), api.MkFree, only(0), freesOne},
			allows{by(3), api.MkRead, only(0), reads},
			allows{but(3), api.MkFail, only(0, 1), nil},
			allows{but(3), api.MkMonitor, only(0), nil},
			allows{threads, api.MkMonitor, only(1), nil})
	}
	just(t, held(api.RW, 8, 1),
		allows{threads, api.MkFail, only(0, 1), nil},
		allows{threads, api.MkMonitor, only(0, 1), nil})
	just(t, held(api.RW, -1, 5),
		allows{threads, api.MkTake, only(1), takesMore},
		allows{threads, api.MkRead, only(0), reads},
		allows{threads, api.MkMonitor, only(0, 1), nil})
}

// P10.1: a Swap without an offer, and with one, of no thread too.
func TestSwap(t *testing.T) {
	just(t, thing(api.Swap, 0, nil), allows{threads, api.MkOffer, among(0, 1000), offers})
	for _, i := range []int{0, 3, 7} {
		for _, item := range []int{0, 5, 1000} {
			x := thing(api.Swap, 0, func(x *api.Thing) { x.Offer, x.Item = i, item })
			just(t, x,
				allows{but(i), api.MkSwap, only(int64(i)), withdraws},
				allows{by(i), api.MkBack, only(0), withdraws})
		}
	}
	for _, i := range []int{8, -2} {
		x := thing(api.Swap, 0, func(x *api.Thing) { x.Offer, x.Item = i, 5 })
		just(t, x, allows{threads, api.MkSwap, only(int64(i)), withdraws})
	}
}

// P10.1: what is none of the five kinds allows nothing, not even to give up.
func TestNoThing(t *testing.T) {
	for _, kind := range []int{least, -5, -1, 0, 6, 7, 99, 1<<32 + 1, most} {
		for _, change := range []func(x *api.Thing){
			nil,
			func(x *api.Thing) { x.Owner, x.Holds, x.Waiters = 2, 1, []api.Waiter{{Thread: 3, Holds: 1}} },
			func(x *api.Thing) { x.N, x.Offer, x.Reads[0] = 5, 3, 2 },
		} {
			x := thing(kind, 0, change)
			tries(func(i int, m api.Note) { refused(t, x, i, m) })
		}
	}
	tries(func(i int, m api.Note) { refused(t, api.Thing{}, i, m) })
}

// P10.1, P10.3: a list of nothing and one that is nil come to the same, and what is handed in stays, throughout a row of marks.
func TestWhatIsHandedInStays(t *testing.T) {
	x := held(api.Lock, 1, 4)
	for _, l := range [][]api.Waiter{nil, {}, make([]api.Waiter, 0, 8)} {
		x.Waiters = l
		y, is := model.Do(x, 1, api.Note{Kind: api.MkWait, Value: 4})
		if want := awaiting(held(api.Lock, -1, 0), api.Waiter{Thread: 1, Holds: 4}); !is || !alike(y, want) || len(x.Waiters) != 0 {
			t.Errorf("Do of %v = %+v, %v; want %+v, true", l, y, is, want)
		}
		if l = l[:cap(l)]; len(l) > 0 && l[0] != (api.Waiter{}) {
			t.Errorf("Do wrote into the list that was handed in: %v", l)
		}
	}
	// Two ways that go on from one thing have nothing of each other.
	x = awaiting(held(api.Lock, 1, 1), api.Waiter{Thread: 5, Holds: 2})
	a, _ := model.Do(x, 1, api.Note{Kind: api.MkWait, Value: 1})
	b, _ := model.Do(a, 2, api.Note{Kind: api.MkTake, Value: 7})
	c, _ := model.Do(a, 3, api.Note{Kind: api.MkTake, Value: 8})
	b, _ = model.Do(b, 2, api.Note{Kind: api.MkWait, Value: 7})
	c, _ = model.Do(c, 3, api.Note{Kind: api.MkWait, Value: 8})
	first := []api.Waiter{{Thread: 5, Holds: 2}, {Thread: 1, Holds: 1}}
	for _, w := range []struct {
		x    api.Thing
		want []api.Waiter
	}{
		{x, first[:1]}, {a, first},
		{b, append(slices.Clone(first), api.Waiter{Thread: 2, Holds: 7})},
		{c, append(slices.Clone(first), api.Waiter{Thread: 3, Holds: 8})},
	} {
		if !slices.Equal(w.x.Waiters, w.want) {
			t.Errorf("%v wait, want %v", w.x.Waiters, w.want)
		}
	}
}

// goes is a thing, and the one kind of calls that can go on, of which threads, and of which N (nil: of all).
type goes struct {
	name string
	x    api.Thing
	kind int
	by   []int
	n    []int64
}

// goings are things, and which calls of them can go on.
func goings() []goes {
	lock, rw := thing(api.Lock, 0, nil), thing(api.RW, 0, nil)
	offer := func(i int) api.Thing {
		return thing(api.Swap, 0, func(x *api.Thing) { x.Offer, x.Item = i, 5 })
	}
	l := []goes{
		{"a Lock of nobody", lock, api.OpLock, threads, nil},
		{"a Lock that some wait for", awaiting(lock, api.Waiter{Thread: 3, Holds: 1}, api.Waiter{Thread: 0, Holds: 5}), api.OpLock, but(0, 3), nil},
		{"a Lock that is held", held(api.Lock, 2, 1), api.OpLock, by(2), nil},
		{"a Lock that is held often", held(api.Lock, 2, 999), api.OpLock, by(2), nil},
		{"a Lock that is held out", held(api.Lock, 2, 1000), 0, nil, nil},
		{"a Latch that is open", thing(api.Latch, 0, nil), api.OpAwait, threads, nil},
		{"a Latch that is not", thing(api.Latch, 1, nil), 0, nil, nil},
		{"a Latch of less than 0", thing(api.Latch, -1, nil), 0, nil, nil},
		{"a Swap without an offer", thing(api.Swap, 0, nil), 0, nil, nil},
		{"a Swap with one of 0", offer(0), api.OpSwap, but(0), nil},
		{"a Swap with one of 7", offer(7), api.OpSwap, but(7), nil},
		{"a Swap with one of no thread", offer(8), api.OpSwap, threads, nil},
		{"a RW that is read out, and held out", reading(held(api.RW, 4, 1000), 1000), 0, nil, nil},
		{"a RW that is read out, and held", reading(held(api.RW, 4, 999), 999, 1), api.OpWrite, by(4), nil},
		{"a RW that is held out", held(api.RW, 4, 1000), api.OpRead, by(4), nil},
		{"a RW that is read", reading(rw, 0, 1), api.OpRead, threads, nil},
		{"a RW that is read often", reading(rw, 500, 499), api.OpRead, threads, nil},
		{"a RW that is read out", reading(rw, 500, 500), 0, nil, nil},
		{"no thing", thing(0, 0, nil), 0, nil, nil},
		{"no thing, of an offer", thing(6, 0, func(x *api.Thing) { x.Offer = 3 }), 0, nil, nil},
	}
	for _, n := range []int64{0, 1, 2, 999, 1000, 1001, most, -1} {
		l = append(l, goes{"a Sema of " + strconv.FormatInt(n, 10), thing(api.Sema, int(n), nil), api.OpAcquire, threads, append(among(1, n), 0)})
	}
	return l
}

// can is Can, of a copy; it tells a fault if that is changed.
func can(t *testing.T, x api.Thing, i int, o api.Op) bool {
	t.Helper()
	in := copied(x)
	is := model.Can(in, i, o)
	if want := copied(x); !alike(in, want) || !slices.Equal(in.Waiters[:cap(want.Waiters)], want.Waiters[:cap(want.Waiters)]) {
		t.Fatalf("Can(%+v, %d, %+v) changed what was handed in", x, i, o)
	}
	return is
}

// P10.2, P10.3: whether calls can go on, of all threads, there or not, all kinds of calls, and all N.
func TestCan(t *testing.T) {
	kinds := append(calls(), least, -1, 0, 20, 21, 99, 1<<32+1, most)
	for _, g := range goings() {
		for _, i := range slices.Concat(threads, none) {
			for _, kind := range kinds {
				for _, n := range values {
					want := kind == g.kind && slices.Contains(g.by, i) && (g.n == nil || n > 0 && slices.Contains(g.n, n))
					if is := can(t, g.x, i, api.Op{Kind: kind, N: int(n)}); is != want {
						t.Errorf("%s: Can of thread %d, kind %d, N %d: %v, want %v", g.name, i, kind, n, is, want)
					}
				}
			}
		}
	}
}

// calls are all kinds of calls.
func calls() []int {
	l := []int{}
	for k := api.OpLock; k <= api.OpSwap; k++ {
		l = append(l, k)
	}
	return l
}

// P10.2: a RW that calls of both kinds can go on with.
func TestCanOfBoth(t *testing.T) {
	for _, c := range []struct {
		x     api.Thing
		write []int
		read  []int
	}{
		{thing(api.RW, 0, nil), threads, threads},
		{held(api.RW, 3, 1), by(3), by(3)},
		{reading(held(api.RW, 3, 999), 0, 0, 0, 999), by(3), by(3)},
		{reading(thing(api.RW, 0, nil), -1, 1), threads, threads},
	} {
		for _, i := range slices.Concat(threads, none) {
			for _, kind := range calls() {
				want := kind == api.OpWrite && slices.Contains(c.write, i) || kind == api.OpRead && slices.Contains(c.read, i)
				if is := can(t, c.x, i, api.Op{Kind: kind}); is != want {
					t.Errorf("Can(%+v, %d, kind %d) = %v, want %v", c.x, i, kind, is, want)
				}
			}
		}
	}
}

// P10.2: which object the call is of, how long it waits, and whether it breaks, is nothing to it.
func TestCanHangsOnNothingElse(t *testing.T) {
	for _, g := range goings() {
		if g.kind == 0 {
			continue
		}
		for _, o := range []api.Op{{Obj: 5}, {Obj: -1}, {Wait: api.Forever}, {Wait: least}, {Breaks: true}, {Obj: most, Wait: most, Breaks: true}} {
			o.Kind, o.N = g.kind, 1
			want := g.n == nil || slices.Contains(g.n, 1)
			if is := can(t, g.x, g.by[0], o); is != want {
				t.Errorf("%s: Can of %+v: %v, want %v", g.name, o, is, want)
			}
		}
	}
}
