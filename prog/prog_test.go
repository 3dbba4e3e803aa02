package prog_test

import (
	"math"
	"reflect"
	"strconv"
	"testing"

	"thole/api"
	"thole/prog"
)

// row is what the chapter's table says of a kind of calls.
type row struct {
	name        string
	kind, of    int
	least, most int
	waits       bool
}

// rows are the chapter's table, written out.
var rows = []row{
	{"OpLock", 1, api.Lock, 0, 0, true},
	{"OpTry", 2, api.Lock, 0, 0, false},
	{"OpUnlock", 3, api.Lock, 0, 0, false},
	{"OpAcquire", 4, api.Sema, 1, 1000, true},
	{"OpTrySome", 5, api.Sema, 1, 1000, false},
	{"OpRelease", 6, api.Sema, 1, 1000, false},
	{"OpDrain", 7, api.Sema, 0, 0, false},
	{"OpAwait", 8, api.Latch, 0, 0, true},
	{"OpDown", 9, api.Latch, 0, 0, false},
	{"OpRead", 10, api.RW, 0, 0, true},
	{"OpTryRead", 11, api.RW, 0, 0, false},
	{"OpUnread", 12, api.RW, 0, 0, false},
	{"OpWrite", 13, api.RW, 0, 0, true},
	{"OpTryWrite", 14, api.RW, 0, 0, false},
	{"OpUnwrite", 15, api.RW, 0, 0, false},
	{"OpWait", 16, api.Lock, 0, 0, true},
	{"OpSignal", 17, api.Lock, 0, 0, false},
	{"OpSignalAll", 18, api.Lock, 0, 0, false},
	{"OpSwap", 19, api.Swap, 0, 1000, true},
}

// forms are what the chapter says of the kinds of objects: the most that N may be, and whether one may be fair.
var forms = []struct {
	kind, most int
	fair       bool
}{
	{api.Lock, 0, true},
	{api.Sema, 1000, true},
	{api.Latch, 1000, false},
	{api.RW, 0, true},
	{api.Swap, 0, false},
}

// noKinds are numbers of no kind, neither of objects, calls nor picks.
var noKinds = []int{math.MinInt, math.MinInt32, -256, -19, -5, -2, -1, 0, 20, 21, 32, 255, 256, 257, 1<<32 + 1, math.MaxInt32, math.MaxInt}

// counts are numbers, and what lies beside both ends of what may be.
var counts = []int{math.MinInt, -1 << 32, -1001, -1000, -2, -1, 0, 1, 2, 500, 999, 1000, 1001, 1024, 65536, 1 << 32, 1<<32 + 1, math.MaxInt}

// waits are how long, and what lies beside both ends of what may be.
var waits = []int64{
	math.MinInt64, -1 << 41, -1 << 40, -1 << 32, -3, -2, -1, 0, 1, 2, 1000, 1 << 31, 1 << 32, 1<<32 - 1,
	1<<40 - 1, 1 << 40, 1<<40 + 1, 1 << 41, 1 << 62, math.MaxInt64,
}

// some is a script that may be, of one object of each kind, and of two threads that call nothing.
func some() api.Script {
	return api.Script{
		Objects:  []api.Object{{Kind: api.Lock}, {Kind: api.Sema}, {Kind: api.Latch}, {Kind: api.RW}, {Kind: api.Swap}},
		Programs: [][]api.Op{{}, {}},
	}
}

// full is a script that may be, with as much of all as there may be.
func full() api.Script {
	s := api.Script{}
	for i := range api.MaxObjects {
		s.Objects = append(s.Objects, api.Object{Kind: api.Sema, Fair: i%2 == 0, N: 1000})
	}
	for range api.MaxThreads {
		ops := []api.Op{}
		for i := range api.MaxOps {
			ops = append(ops, api.Op{Kind: api.OpAcquire, Obj: i % api.MaxObjects, N: 1000, Wait: api.MaxWait, Breaks: true})
		}
		s.Programs = append(s.Programs, ops)
	}
	for i := range api.MaxPicks {
		s.Picks = append(s.Picks, api.Pick{Kind: i%4 + 1, N: int64(i % 9)})
	}
	return s
}

// copied is a script of the same, in memory of its own.
func copied(s api.Script) api.Script {
	c := api.Script{Objects: append([]api.Object{}, s.Objects...), Picks: append([]api.Pick{}, s.Picks...), Programs: [][]api.Op{}}
	for _, ops := range s.Programs {
		c.Programs = append(c.Programs, append([]api.Op{}, ops...))
	}
	return c
}

// is tells a fault if the script doesn't come to this, or isn't as it was behind it.
func is(t *testing.T, what string, s api.Script, want error) {
	t.Helper()
	was := copied(s)
	if err := prog.Check(s); err != want {
		t.Errorf("%s: Check: %v, want %v", what, err, want)
	}
	if !reflect.DeepEqual(copied(s), was) {
		t.Errorf("%s: Check changed the script", what)
	}
}

// may is no error, or ErrArg.
func may(is bool) error {
	if is {
		return nil
	}
	return api.ErrArg
}

// within tells whether n is one of least to most.
func within[N int | int64](n, least, most N) bool { return n >= least && n <= most }

// P5.1: the chapter's example, and others that may be.
func TestExample(t *testing.T) {
	is(t, "a lock", api.Script{
		Objects:  []api.Object{{Kind: api.Lock}},
		Programs: [][]api.Op{{{Kind: api.OpLock, Wait: api.Forever}, {Kind: api.OpUnlock}}},
	}, nil)
	is(t, "no calls", api.Script{Objects: []api.Object{{Kind: api.Lock}}, Programs: [][]api.Op{nil}}, nil)
	is(t, "one object of each kind", some(), nil)
	is(t, "as much of all as there may be", full(), nil)
}

// P5.1: a script of none of objects or threads, whatever else it has.
func TestNone(t *testing.T) {
	is(t, "nothing", api.Script{}, api.ErrArg)
	for _, empty := range []bool{false, true} {
		s, f := some(), full()
		s.Objects, f.Objects = nil, nil
		if empty {
			s.Objects, f.Objects = []api.Object{}, []api.Object{}
		}
		is(t, "no objects", s, api.ErrArg)
		is(t, "no objects, but calls", f, api.ErrArg)
		s, f = some(), full()
		s.Programs, f.Programs = nil, nil
		if empty {
			s.Programs, f.Programs = [][]api.Op{}, [][]api.Op{}
		}
		is(t, "no threads", s, api.ErrArg)
		is(t, "no threads, but picks", f, api.ErrArg)
	}
}

// P5.1: as many as there may be, and one more, of each list by itself.
func TestTooMany(t *testing.T) {
	for n := 1; n <= 2*api.MaxObjects; n++ {
		s := some()
		s.Objects = nil
		for range n {
			s.Objects = append(s.Objects, api.Object{Kind: api.Lock})
		}
		is(t, strconv.Itoa(n)+" objects", s, large(n, 6))
	}
	for n := 1; n <= 2*api.MaxThreads; n++ {
		s := some()
		s.Programs = make([][]api.Op, n)
		is(t, strconv.Itoa(n)+" threads", s, large(n, 8))
	}
	for n := range 2*api.MaxOps + 1 {
		for thread := range api.MaxThreads {
			s := some()
			s.Programs = make([][]api.Op, api.MaxThreads)
			for range n {
				s.Programs[thread] = append(s.Programs[thread], api.Op{Kind: api.OpTry})
			}
			is(t, strconv.Itoa(n)+" calls of thread "+strconv.Itoa(thread), s, large(n, 16))
		}
	}
	for _, n := range []int{0, 1, 3999, 4000, 4001, 4096, 8000, 65536, 65537} {
		s := some()
		for range n {
			s.Picks = append(s.Picks, api.Pick{Kind: api.PickRun})
		}
		is(t, strconv.Itoa(n)+" picks", s, large(n, 4000))
	}
}

// large is ErrLarge of more than the most, or no error.
func large(n, most int) error {
	if n > most {
		return api.ErrLarge
	}
	return nil
}

// P5.1: what is too much is told ahead of what isn't as it should be, wherever either stands.
func TestLargeIsFirst(t *testing.T) {
	faults := []func(s *api.Script){
		func(s *api.Script) {},
		func(s *api.Script) { s.Objects[0].Kind = 0 },
		func(s *api.Script) { s.Objects[0].N = -1 },
		func(s *api.Script) { s.Programs[0][0].Kind = 20 },
		func(s *api.Script) { s.Programs[0][0].Obj = -1 },
		func(s *api.Script) { s.Programs[7][15].Wait = -2 },
		func(s *api.Script) { s.Picks[0].Kind = 5 },
		func(s *api.Script) { s.Picks[3999].N = -1 },
		func(s *api.Script) { s.Objects = nil },
		func(s *api.Script) { s.Picks[0].N = 9 },
	}
	more := []func(s *api.Script){
		func(s *api.Script) { s.Objects = append(s.Objects, make([]api.Object, 7)...) },
		func(s *api.Script) { s.Programs = append(s.Programs, nil) },
		func(s *api.Script) { s.Programs[0] = append(s.Programs[0], s.Programs[0][0]) },
		func(s *api.Script) { s.Programs[7] = append(s.Programs[7], s.Programs[7][0]) },
		func(s *api.Script) { s.Picks = append(s.Picks, s.Picks[0]) },
	}
	for i, fault := range faults {
		for k, too := range more {
			s := full()
			fault(&s)
			too(&s)
			is(t, "fault "+strconv.Itoa(i)+", too many "+strconv.Itoa(k), s, api.ErrLarge)
		}
	}
	for _, s := range []api.Script{
		{Objects: make([]api.Object, 7)},
		{Programs: make([][]api.Op, 9)},
		{Programs: [][]api.Op{make([]api.Op, 17)}},
		{Picks: make([]api.Pick, 4001)},
	} {
		is(t, "none of one, too many of another", s, api.ErrLarge)
	}
}

// P5.1: objects of each kind and none, fair and not, of all numbers, at each place.
func TestObjects(t *testing.T) {
	for _, f := range forms {
		for _, fair := range []bool{false, true} {
			for _, n := range counts {
				for at := range api.MaxObjects {
					s := full()
					s.Objects[at] = api.Object{Kind: f.kind, Fair: fair, N: n}
					what := "object " + strconv.Itoa(at) + " of kind " + strconv.Itoa(f.kind) + ", N " + strconv.Itoa(n) + ", Fair " + strconv.FormatBool(fair)
					is(t, what, s, may(within(n, 0, f.most) && (f.fair || !fair)))
				}
			}
		}
	}
}

// P5.1: an object of no kind may not be, as whatever it else stands there.
func TestObjectsOfNoKind(t *testing.T) {
	for _, kind := range append([]int{6, 7, 19}, noKinds...) {
		for _, fair := range []bool{false, true} {
			for _, n := range []int{0, 1, 1000, -1} {
				s := some()
				s.Objects = append(s.Objects, api.Object{Kind: kind, Fair: fair, N: n})
				is(t, "an object of kind "+strconv.Itoa(kind), s, api.ErrArg)
			}
		}
	}
}

// P5.1: all numbers that a semaphore and a latch may have.
func TestAllCounts(t *testing.T) {
	for n := -1010; n <= 2010; n++ {
		for _, kind := range []int{api.Sema, api.Latch} {
			s := some()
			s.Objects[3] = api.Object{Kind: kind, N: n}
			is(t, "N "+strconv.Itoa(n), s, may(within(n, 0, 1000)))
		}
	}
}

// good is a call of a row that may be.
func (r row) good() api.Op { return api.Op{Kind: r.kind, N: r.most} }

// P5.1: the call's number, of each kind of calls.
func TestNumbersOfCalls(t *testing.T) {
	for _, r := range rows {
		for _, n := range counts {
			s, op := some(), r.good()
			op.N = n
			s.Programs[1] = []api.Op{op}
			is(t, r.name+" of N "+strconv.Itoa(n), s, may(within(n, r.least, r.most)))
		}
		for n := -20; n <= 1020; n++ {
			op := r.good()
			op.N = n
			s := some()
			s.Programs[0] = []api.Op{op}
			is(t, r.name+" of N "+strconv.Itoa(n), s, may(within(n, r.least, r.most)))
		}
	}
}

// P5.1: how long a call waits, and whether it breaks, of each kind of calls.
func TestWaitsOfCalls(t *testing.T) {
	for _, r := range rows {
		for _, wait := range waits {
			for _, breaks := range []bool{false, true} {
				s, op := some(), r.good()
				op.Wait, op.Breaks = wait, breaks
				s.Programs[1] = []api.Op{op}
				want := wait == 0 && !breaks
				if r.waits {
					want = within(wait, -1, 1<<40)
				}
				is(t, r.name+" of Wait "+strconv.FormatInt(wait, 10)+", Breaks "+strconv.FormatBool(breaks), s, may(want))
			}
		}
	}
}

// P5.1: the call's object is there; it may be of any kind.
func TestObjectsOfCalls(t *testing.T) {
	places := []int{math.MinInt, -1 << 32, -7, -2, -1, 0, 1, 2, 3, 4, 5, 6, 7, 8, 16, 255, 256, 1 << 32, 1<<32 + 1, math.MaxInt}
	for _, r := range rows {
		for _, obj := range places {
			for objects := 1; objects <= api.MaxObjects; objects++ {
				s, op := full(), r.good()
				s.Objects = s.Objects[:objects]
				op.Obj = obj
				s.Programs = [][]api.Op{{op}}
				is(t, r.name+" of object "+strconv.Itoa(obj)+" of "+strconv.Itoa(objects), s, may(within(obj, 0, objects-1)))
			}
			s, op := some(), r.good()
			op.Obj = obj
			s.Programs[0] = []api.Op{op}
			is(t, r.name+" of object "+strconv.Itoa(obj), s, may(within(obj, 0, 4)))
		}
	}
}

// P5.1: a call of no kind may not be.
func TestCallsOfNoKind(t *testing.T) {
	for _, kind := range noKinds {
		for _, op := range []api.Op{{}, {N: 1}, {Wait: api.Forever}, {Wait: 5, Breaks: true}, {Obj: 4}, {Obj: -1}} {
			op.Kind = kind
			s := some()
			s.Programs[1] = []api.Op{op}
			is(t, "a call of kind "+strconv.Itoa(kind), s, api.ErrArg)
		}
	}
}

// P5.1: one call at fault is enough, wherever it stands.
func TestEachCallIsLookedAt(t *testing.T) {
	for thread := range api.MaxThreads {
		for at := range api.MaxOps {
			for i, fault := range []func(op *api.Op){
				func(op *api.Op) { op.Kind = 0 },
				func(op *api.Op) { op.Obj = 6 },
				func(op *api.Op) { op.N = 0 },
				func(op *api.Op) { op.Wait = 1<<40 + 1 },
				func(op *api.Op) { op.Kind, op.Wait = api.OpTrySome, 0 },
			} {
				s := full()
				fault(&s.Programs[thread][at])
				is(t, "fault "+strconv.Itoa(i)+" of call "+strconv.Itoa(at)+" of thread "+strconv.Itoa(thread), s, api.ErrArg)
			}
		}
	}
}

// P5.1: picks of each kind and none, of all numbers.
func TestPicks(t *testing.T) {
	numbers := append([]int64{3, 4, 5, 6, 7, 8, 9, 10, 16, 255, 256, 257, 1<<32 + 8}, waits...)
	for _, n := range numbers {
		for _, c := range []struct {
			kind int
			most int64
		}{{api.PickRun, 8}, {api.PickTick, 1 << 40}, {api.PickBreak, 8}, {api.PickWake, 8}} {
			s := some()
			s.Picks = []api.Pick{{Kind: c.kind, N: n}}
			is(t, "a pick of kind "+strconv.Itoa(c.kind)+", N "+strconv.FormatInt(n, 10), s, may(within(n, 0, c.most)))
		}
		for _, kind := range append([]int{5, 6, 19}, noKinds...) {
			s := some()
			s.Picks = []api.Pick{{Kind: kind, N: n}}
			is(t, "a pick of kind "+strconv.Itoa(kind), s, api.ErrArg)
		}
	}
}

// P5.1: one pick at fault is enough, wherever it stands.
func TestEachPickIsLookedAt(t *testing.T) {
	for _, bad := range []api.Pick{{}, {Kind: 5}, {Kind: api.PickRun, N: 9}, {Kind: api.PickTick, N: -1}, {Kind: api.PickWake, N: -1}} {
		for _, at := range []int{0, 1, 2, 63, 64, 1999, 2000, 3998, 3999} {
			s := full()
			s.Picks[at] = bad
			is(t, "pick "+strconv.Itoa(at), s, api.ErrArg)
		}
	}
}

// P5.2
func TestKinds(t *testing.T) {
	for _, r := range rows {
		if prog.Waits(r.kind) != r.waits || prog.Of(r.kind) != r.of {
			t.Errorf("%s: Waits %v, Of %d; want %v, %d", r.name, prog.Waits(r.kind), prog.Of(r.kind), r.waits, r.of)
		}
	}
	for _, kind := range noKinds {
		if prog.Waits(kind) || prog.Of(kind) != 0 {
			t.Errorf("kind %d: Waits %v, Of %d; want false, 0", kind, prog.Waits(kind), prog.Of(kind))
		}
	}
	for kind := -70000; kind <= 70000; kind++ {
		if kind >= 1 && kind <= 19 {
			continue
		}
		if prog.Waits(kind) || prog.Of(kind) != 0 {
			t.Fatalf("kind %d: Waits %v, Of %d; want false, 0", kind, prog.Waits(kind), prog.Of(kind))
		}
	}
}

// P5.2: the numbers of the rows are those of the names.
func TestRows(t *testing.T) {
	for i, kind := range []int{
		api.OpLock, api.OpTry, api.OpUnlock, api.OpAcquire, api.OpTrySome, api.OpRelease, api.OpDrain, api.OpAwait, api.OpDown, api.OpRead,
		api.OpTryRead, api.OpUnread, api.OpWrite, api.OpTryWrite, api.OpUnwrite, api.OpWait, api.OpSignal, api.OpSignalAll, api.OpSwap,
	} {
		if rows[i].kind != kind {
			t.Errorf("%s has the number %d, want %d", rows[i].name, rows[i].kind, kind)
		}
	}
}

// P5.3: what lies behind a list's end stays as it is, too, whatever the call comes to.
func TestWhatIsHandedInStays(t *testing.T) {
	for i, fault := range []func(s *api.Script){
		func(s *api.Script) {},
		func(s *api.Script) { s.Objects[5].N = 1001 },
		func(s *api.Script) { s.Programs[3][7].Obj = -1 },
		func(s *api.Script) { s.Picks[3999].Kind = 0 },
		func(s *api.Script) { s.Picks = append(s.Picks, api.Pick{}) },
	} {
		whole := full()
		fault(&whole)
		was := copied(whole)
		s := api.Script{Objects: whole.Objects[:3], Programs: whole.Programs[:4], Picks: whole.Picks[:10]}
		for range 2 {
			_ = prog.Check(whole)
			_ = prog.Check(s)
		}
		if !reflect.DeepEqual(copied(whole), was) {
			t.Errorf("fault %d: what was handed in was changed", i)
		}
	}
}

// P5.3: nothing is kept: what a call answers hangs on its arguments alone, whatever was asked ahead of it, and on what they are now.
func TestNothingIsKept(t *testing.T) {
	bad, much := full(), full()
	bad.Programs[0][0].N = 0
	much.Picks = append(much.Picks, api.Pick{Kind: api.PickRun})
	s := full()
	for range 3 {
		for _, call := range []func(){
			func() { is(t, "bad", bad, api.ErrArg) },
			func() { is(t, "much", much, api.ErrLarge) },
			func() { is(t, "nothing", api.Script{}, api.ErrArg) },
			func() { prog.Waits(0) },
			func() { prog.Of(-1) },
		} {
			call()
			is(t, "full", s, nil)
			s.Objects[0].N = 1001
			is(t, "full, changed", s, api.ErrArg)
			s.Objects[0].N = 1000
			if !prog.Waits(api.OpSwap) || prog.Waits(api.OpDown) || prog.Of(api.OpDown) != api.Latch || prog.Of(20) != 0 {
				t.Error("what a kind is hangs on an earlier call")
			}
		}
	}
}

// P5.4: with fewer picks: without any of them, of the first ones alone, of none.
func TestFewerPicks(t *testing.T) {
	s := full()
	s.Picks = s.Picks[:40]
	for n := range s.Picks {
		less := copied(s)
		less.Picks = less.Picks[:n]
		is(t, "the first picks", less, nil)
		less = copied(s)
		less.Picks = append(less.Picks[:n], less.Picks[n+1:]...)
		is(t, "all picks but one", less, nil)
	}
}

// P5.4: with fewer calls: without any of them, of the first ones alone, of none in any thread.
func TestFewerCalls(t *testing.T) {
	s := full()
	for thread, ops := range s.Programs {
		for n := range ops {
			less := copied(s)
			less.Programs[thread] = less.Programs[thread][:n]
			is(t, "the first calls", less, nil)
			less = copied(s)
			less.Programs[thread] = append(less.Programs[thread][:n], less.Programs[thread][n+1:]...)
			is(t, "all calls but one", less, nil)
		}
		s.Programs[thread] = nil
		is(t, "no calls of a thread", s, nil)
	}
}

// chance is a row of numbers that look drawn by lot, the same in each run.
type chance uint32

// next is a number below n.
func (c *chance) next(n int) int {
	*c = *c*1664525 + 1013904223
	return int(*c>>8) % n
}

// nearly is a call that may be but for, now and then, one of its parts.
func (c *chance) nearly(objects int) (api.Op, bool) {
	r := rows[c.next(len(rows))]
	op := api.Op{Kind: r.kind, Obj: c.next(objects), N: r.least + c.next(r.most-r.least+1)}
	if r.waits {
		op.Wait, op.Breaks = int64(c.next(1000))-1, c.next(2) == 0
	}
	switch c.next(250) {
	case 0:
		op.Kind = -c.next(3)
	case 1:
		op.Obj = objects + c.next(2)
	case 2:
		op.N = r.most + 1
	case 3:
		op.N = r.least - 1
	case 4:
		op.Wait = -2
	case 5:
		op.Obj = -1
	default:
		return op, true
	}
	return op, false
}

// P5.1 and P5.4, and P1, over a long row of scripts: each is built with what it should come to; those that may be still may with fewer picks and calls.
func TestManyCallsInARow(t *testing.T) {
	c, good, wrong := chance(7), 0, 0
	for round := range 3000 {
		s, want := api.Script{}, true
		for range 1 + c.next(api.MaxObjects) {
			f := forms[c.next(len(forms))]
			s.Objects = append(s.Objects, api.Object{Kind: f.kind, N: c.next(f.most + 1), Fair: f.fair && c.next(2) == 0})
		}
		for range 1 + c.next(api.MaxThreads) {
			ops := []api.Op{}
			for range c.next(api.MaxOps + 1) {
				op, right := c.nearly(len(s.Objects))
				ops, want = append(ops, op), want && right
			}
			s.Programs = append(s.Programs, ops)
		}
		for range c.next(40) {
			p := api.Pick{Kind: 1 + c.next(4), N: int64(c.next(9))}
			if c.next(250) == 0 {
				p, want = api.Pick{Kind: c.next(2) * 5, N: p.N}, false
			}
			s.Picks = append(s.Picks, p)
		}
		is(t, "round "+strconv.Itoa(round), s, may(want))
		if !want {
			wrong++
			continue
		}
		good++
		thread := c.next(len(s.Programs))
		s.Picks = s.Picks[:c.next(len(s.Picks)+1)]
		s.Programs[thread] = s.Programs[thread][:c.next(len(s.Programs[thread])+1)]
		is(t, "fewer, round "+strconv.Itoa(round), s, nil)
	}
	if good < 300 || wrong < 300 {
		t.Errorf("%d scripts may be, %d not: too few of one to tell", good, wrong)
	}
}
