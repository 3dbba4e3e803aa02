package pack_test

import (
	"bytes"
	"encoding/binary"
	"math"
	"reflect"
	"slices"
	"strconv"
	"testing"

	"thole/api"
	"thole/pack"
	"thole/prog"
)

// What a number in a script's bytes is.
const (
	aCount = iota // of a list
	aField
	aFlag
)

// part is a number of a script's bytes.
type part struct {
	what int
	n    int64
}

// parts are all numbers of a script, may it be or not, in the chapter's order.
func parts(s api.Script) []part {
	p := []part{{aCount, int64(len(s.Objects))}}
	for _, x := range s.Objects {
		p = append(p, part{aField, int64(x.Kind)}, part{aFlag, bit(x.Fair)}, part{aField, int64(x.N)})
	}
	p = append(p, part{aCount, int64(len(s.Programs))})
	for _, ops := range s.Programs {
		p = append(p, part{aCount, int64(len(ops))})
		for _, op := range ops {
			p = append(p, part{aField, int64(op.Kind)}, part{aField, int64(op.Obj)}, part{aField, int64(op.N)}, part{aField, op.Wait}, part{aFlag, bit(op.Breaks)})
		}
	}
	p = append(p, part{aCount, int64(len(s.Picks))})
	for _, x := range s.Picks {
		p = append(p, part{aField, int64(x.Kind)}, part{aField, x.N})
	}
	return p
}

// bit is 1 for true, 0 for false.
func bit(is bool) int64 {
	if is {
		return 1
	}
	return 0
}

// number is the bytes of one, as the library's own varints have them: they are the chapter's.
func number(n int64) []byte { return binary.AppendVarint(nil, n) }

// join is the bytes of parts.
func join(p []part) []byte {
	b := []byte{}
	for _, x := range p {
		b = append(b, number(x.n)...)
	}
	return b
}

// written is the bytes of a script, may it be or not.
func written(s api.Script) []byte { return join(parts(s)) }

// scan reads scripts by the library's own varints: what Get is held against.
type scan struct {
	rest []byte
	bad  bool
}

func (r *scan) number() int64 {
	n, size := binary.Varint(r.rest)
	if r.bad || size <= 0 || !bytes.Equal(number(n), r.rest[:size]) {
		r.bad = true
		return 0
	}
	r.rest = r.rest[size:]
	return n
}

func (r *scan) flag() bool {
	n := r.number()
	r.bad = r.bad || n != 0 && n != 1
	return n == 1
}

func (r *scan) count() int {
	n := r.number()
	r.bad = r.bad || n < 0 || n > 65536
	if r.bad {
		return 0
	}
	return int(n)
}

// read is what Get should answer.
func read(b []byte) (api.Script, error) {
	r, s := &scan{rest: b}, api.Script{}
	for i := r.count(); i > 0 && !r.bad; i-- {
		s.Objects = append(s.Objects, api.Object{Kind: int(r.number()), Fair: r.flag(), N: int(r.number())})
	}
	for i := r.count(); i > 0 && !r.bad; i-- {
		ops := []api.Op{}
		for k := r.count(); k > 0 && !r.bad; k-- {
			ops = append(ops, api.Op{Kind: int(r.number()), Obj: int(r.number()), N: int(r.number()), Wait: r.number(), Breaks: r.flag()})
		}
		s.Programs = append(s.Programs, ops)
	}
	for i := r.count(); i > 0 && !r.bad; i-- {
		s.Picks = append(s.Picks, api.Pick{Kind: int(r.number()), N: r.number()})
	}
	if r.bad || len(r.rest) != 0 {
		return api.Script{}, api.ErrForm
	}
	if err := prog.Check(s); err != nil {
		return api.Script{}, err
	}
	return s, nil
}

// some is a script that may be, of one object of each kind and of numbers of many lengths.
func some() api.Script {
	return api.Script{
		Objects: []api.Object{{Kind: api.Lock, Fair: true}, {Kind: api.Sema, N: 70}, {Kind: api.Latch, N: 1000}, {Kind: api.RW}, {Kind: api.Swap}},
		Programs: [][]api.Op{
			{{Kind: api.OpLock, Wait: api.Forever}, {Kind: api.OpUnlock}},
			nil,
			{{Kind: api.OpAcquire, Obj: 1, N: 64, Wait: api.MaxWait, Breaks: true}},
			{{Kind: api.OpSwap, Obj: 4, N: 63, Wait: 8191}, {Kind: api.OpDown, Obj: 2}, {Kind: api.OpWrite, Obj: 3, Wait: 1 << 20}},
		},
		Picks: []api.Pick{{Kind: api.PickRun, N: 2}, {Kind: api.PickTick, N: 8192}, {Kind: api.PickBreak, N: 8}, {Kind: api.PickWake}},
	}
}

// full is a script that may be, with as much of all as there may be.
func full() api.Script {
	s := api.Script{}
	for i := range api.MaxObjects {
		s.Objects = append(s.Objects, api.Object{Kind: api.Sema, Fair: i%2 == 0, N: 1000 - i})
	}
	for thread := range api.MaxThreads {
		ops := []api.Op{}
		for i := range api.MaxOps {
			ops = append(ops, api.Op{Kind: api.OpAcquire, Obj: i % api.MaxObjects, N: 1 + i*60 + thread, Wait: int64(1)<<(2*i) - 1, Breaks: i%3 == 0})
		}
		s.Programs = append(s.Programs, ops)
	}
	for i := range api.MaxPicks {
		s.Picks = append(s.Picks, api.Pick{Kind: i%4 + 1, N: int64(i % 9)})
	}
	return s
}

// least is the chapter's example: a script of which no list can do with less.
func least() api.Script {
	return api.Script{Objects: []api.Object{{Kind: api.Lock}}, Programs: [][]api.Op{{}}}
}

// copied is a script of the same, in memory of its own, its lists of no elements empty.
func copied(s api.Script) api.Script {
	c := api.Script{Objects: append([]api.Object{}, s.Objects...), Picks: append([]api.Pick{}, s.Picks...), Programs: [][]api.Op{}}
	for _, ops := range s.Programs {
		c.Programs = append(c.Programs, append([]api.Op{}, ops...))
	}
	return c
}

// same tells whether two scripts are, whichever of their lists are nil.
func same(s, x api.Script) bool { return reflect.DeepEqual(copied(s), copied(x)) }

// gives tells a fault if a script isn't put as these bytes, or they aren't got as it.
func gives(t *testing.T, what string, s api.Script, want []byte) {
	t.Helper()
	was, given := copied(s), bytes.Clone(want)
	if b, err := pack.Put(s); err != nil || !bytes.Equal(b, want) {
		t.Errorf("%s: Put: % x, %v; want % x", what, b, err, want)
	}
	if x, err := pack.Get(given); err != nil || !same(x, was) {
		t.Errorf("%s: Get(% x): %v, %v; want %v", what, want, x, err, was)
	}
	if !same(s, was) || !bytes.Equal(given, want) {
		t.Errorf("%s: what was handed in was changed", what)
	}
}

// fails tells a fault if bytes don't come to this error, alone.
func fails(t *testing.T, what string, b []byte, want error) {
	t.Helper()
	was := bytes.Clone(b)
	if x, err := pack.Get(b); err != want || !reflect.DeepEqual(x, api.Script{}) {
		t.Errorf("%s: Get: %v, %v; want no script, %v", what, x, err, want)
	}
	if !bytes.Equal(b, was) {
		t.Errorf("%s: Get changed what was handed in", what)
	}
}

// refused tells a fault if a script isn't put with this error, alone, or its bytes aren't got with it.
func refused(t *testing.T, what string, s api.Script, want error) {
	t.Helper()
	was := copied(s)
	if b, err := pack.Put(s); err != want || b != nil {
		t.Errorf("%s: Put: % x, %v; want no bytes, %v", what, b, err, want)
	}
	fails(t, what, written(s), want)
	if !same(s, was) {
		t.Errorf("%s: Put changed what was handed in", what)
	}
}

// P6.1 and P6.2: the chapter's example, and bytes that are written out by hand.
func TestExamples(t *testing.T) {
	gives(t, "the least", least(), []byte{0x02, 0x02, 0x00, 0x00, 0x02, 0x00, 0x00})
	gives(t, "two of all", api.Script{
		Objects: []api.Object{{Kind: api.RW, Fair: true}, {Kind: api.Latch, N: 64}},
		Programs: [][]api.Op{
			{{Kind: api.OpTryRead}, {Kind: api.OpAwait, Obj: 1, Wait: -1, Breaks: true}},
			{{Kind: api.OpRead, Wait: 8192}},
		},
		Picks: []api.Pick{{Kind: api.PickTick, N: 63}, {Kind: api.PickWake, N: 1}},
	}, []byte{
		4, 8, 2, 0, 6, 0, 0x80, 1,
		4, 4, 22, 0, 0, 0, 0, 16, 2, 0, 1, 2, 2, 20, 0, 0, 0x80, 0x80, 1, 0,
		4, 4, 126, 8, 2,
	})
	gives(t, "some", some(), written(some()))
	gives(t, "full", full(), written(full()))
}

// P6.1 and P6.2: numbers of all lengths that a script may have, as bytes that are written out by hand.
func TestNumbers(t *testing.T) {
	for _, c := range []struct {
		n int64
		b []byte
	}{
		{0, []byte{0}}, {1, []byte{2}}, {2, []byte{4}}, {62, []byte{124}}, {63, []byte{126}},
		{64, []byte{0x80, 1}}, {65, []byte{0x82, 1}}, {127, []byte{0xfe, 1}}, {128, []byte{0x80, 2}}, {8191, []byte{0xfe, 0x7f}},
		{8192, []byte{0x80, 0x80, 1}}, {8193, []byte{0x82, 0x80, 1}}, {1<<20 - 1, []byte{0xfe, 0xff, 0x7f}},
		{1 << 20, []byte{0x80, 0x80, 0x80, 1}}, {1<<27 - 1, []byte{0xfe, 0xff, 0xff, 0x7f}},
		{1 << 27, []byte{0x80, 0x80, 0x80, 0x80, 1}}, {1 << 31, []byte{0x80, 0x80, 0x80, 0x80, 0x10}}, {1 << 32, []byte{0x80, 0x80, 0x80, 0x80, 0x20}},
		{1<<34 - 1, []byte{0xfe, 0xff, 0xff, 0xff, 0x7f}}, {1 << 34, []byte{0x80, 0x80, 0x80, 0x80, 0x80, 1}},
		{1<<40 - 1, []byte{0xfe, 0xff, 0xff, 0xff, 0xff, 0x3f}}, {1 << 40, []byte{0x80, 0x80, 0x80, 0x80, 0x80, 0x40}},
	} {
		s := least()
		s.Picks = []api.Pick{{Kind: api.PickTick, N: c.n}}
		gives(t, "ticks "+strconv.FormatInt(c.n, 10), s, append([]byte{2, 2, 0, 0, 2, 0, 2, 4}, c.b...))
		s = least()
		s.Programs[0] = []api.Op{{Kind: api.OpLock, Wait: c.n}}
		gives(t, "a wait of "+strconv.FormatInt(c.n, 10), s, slices.Concat([]byte{2, 2, 0, 0, 2, 2, 2, 0, 0}, c.b, []byte{0, 0}))
	}
	s := least()
	s.Programs[0] = []api.Op{{Kind: api.OpLock, Wait: -1, Breaks: true}}
	gives(t, "a wait forever", s, []byte{2, 2, 0, 0, 2, 2, 2, 0, 0, 1, 2, 0})
}

// P6.1 and P6.2: each power of two, and what lies beside it, as a wait; all counts of permits.
func TestManyNumbers(t *testing.T) {
	for i := range 41 {
		for d := int64(-1); d <= 1; d++ {
			n := int64(1)<<i + d
			s := least()
			s.Programs[0] = []api.Op{{Kind: api.OpLock, Wait: n}}
			if n <= api.MaxWait {
				gives(t, "a wait", s, written(s))
			} else {
				refused(t, "a wait", s, api.ErrArg)
			}
		}
	}
	for n := range api.MaxCount + 1 {
		s := least()
		s.Objects[0] = api.Object{Kind: api.Sema, N: n}
		gives(t, "permits", s, written(s))
	}
}

// P6.2: all numbers of 64 bits are numbers, whether they may be or not; what has more bits is none.
func TestNumbersThatMayNotBe(t *testing.T) {
	p := parts(some())
	for at, x := range p {
		for _, n := range []int64{math.MinInt64, math.MinInt64 + 1, -1 << 62, -1 << 40, -65, -64, 1 << 41, 1 << 62, math.MaxInt64 - 1, math.MaxInt64} {
			q := slices.Clone(p)
			q[at].n = n
			want := api.ErrForm
			if x.what == aField {
				want = api.ErrArg
			}
			fails(t, "part "+strconv.Itoa(at)+" of "+strconv.FormatInt(n, 10), join(q), want)
		}
		ff := bytes.Repeat([]byte{0xff}, 9)
		for _, last := range [][]byte{{2}, {3}, {0x40}, {0x7f}, {0x80}, {0x81, 0}, {0xff}, {0xff, 0}, {0xff, 1}, {0x80, 0x80, 1}} {
			b := slices.Concat(join(p[:at]), ff, last, join(p[at+1:]))
			fails(t, "part "+strconv.Itoa(at)+" of more than 64 bits", b, api.ErrForm)
			b = slices.Concat(join(p[:at]), bytes.Repeat([]byte{0x80}, 9), last, join(p[at+1:]))
			fails(t, "part "+strconv.Itoa(at)+" of more than 64 bits, the lowest ones 0", b, api.ErrForm)
		}
	}
}

// P6.2: a number in more bytes than it needs is none, wherever it stands.
func TestAsFewBytesAsCanBe(t *testing.T) {
	for _, s := range []api.Script{some(), least()} {
		p := parts(s)
		for at, x := range p {
			for more := 1; more <= 12; more++ {
				long := number(x.n)
				for range more {
					long[len(long)-1] |= 0x80
					long = append(long, 0)
				}
				fails(t, "part "+strconv.Itoa(at)+" with "+strconv.Itoa(more)+" bytes more", slices.Concat(join(p[:at]), long, join(p[at+1:])), api.ErrForm)
			}
		}
	}
}

// P6.2: bytes that end too soon, or too late.
func TestTooFewAndTooMany(t *testing.T) {
	fails(t, "nil", nil, api.ErrForm)
	fails(t, "no bytes", []byte{}, api.ErrForm)
	for _, s := range []api.Script{least(), some(), full()} {
		b := written(s)
		for n := range b {
			if n < 400 || n > len(b)-400 {
				fails(t, "the first "+strconv.Itoa(n)+" bytes", b[:n:n], api.ErrForm)
				fails(t, "the first "+strconv.Itoa(n)+" bytes, the others behind them", b[:n], api.ErrForm)
			}
		}
		for _, more := range [][]byte{{0}, {1}, {2}, {0x80}, {0xff}, {0, 0}, {0, 0, 0}, b} {
			fails(t, "with bytes behind it", slices.Concat(b, more), api.ErrForm)
		}
	}
	for c := range 256 {
		fails(t, "one byte", []byte{byte(c)}, api.ErrForm)
		fails(t, "two bytes", []byte{0, byte(c)}, api.ErrForm)
	}
}

// P6.2: a bool is 0 or 1, wherever it stands; 1 where it may not be is prog.Check's to tell.
func TestFlags(t *testing.T) {
	p := parts(some())
	for at, x := range p {
		if x.what != aFlag {
			continue
		}
		for _, n := range []int64{-1 << 40, -3, -2, -1, 2, 3, 4, 63, 64, 128, 255, 256, 257, 1 << 32, 1<<32 + 1} {
			q := slices.Clone(p)
			q[at].n = n
			fails(t, "flag "+strconv.Itoa(at)+" of "+strconv.FormatInt(n, 10), join(q), api.ErrForm)
		}
		for n := range int64(2) {
			q := slices.Clone(p)
			q[at].n = n
			_, want := read(join(q))
			if _, err := pack.Get(join(q)); err != want {
				t.Errorf("flag %d of %d: %v, want %v", at, n, err, want)
			}
		}
	}
	s := least()
	s.Objects = []api.Object{{Kind: api.Latch, Fair: true}}
	refused(t, "a fair latch", s, api.ErrArg)
}

// P6.2: what counts a list tells is there, no more and no less; none is below 0.
func TestCounts(t *testing.T) {
	for _, s := range []api.Script{least(), some(), full()} {
		p := parts(s)
		for at, x := range p {
			if x.what != aCount {
				continue
			}
			for _, n := range []int64{-1 << 32, -x.n - 1, -2, -1, x.n + 1<<16, x.n + 1<<32, 1<<16 + 1, 1 << 16, 1 << 17} {
				q := slices.Clone(p)
				q[at].n = n
				fails(t, "count "+strconv.Itoa(at)+" of "+strconv.FormatInt(n, 10), join(q), api.ErrForm)
			}
		}
	}
	for _, b := range [][]byte{{0, 0, 1}, {0, 1, 0}, {1, 0, 0}, {2, 2, 0, 0, 2, 1, 0}, {2, 2, 0, 0, 1, 0}, {2, 2, 0, 0, 2, 0, 1}} {
		fails(t, "a count of -1", b, api.ErrForm)
	}
}

// many is a script of so many elements in one of its lists, and else the least.
func many(list, n int) api.Script {
	s := least()
	switch list {
	case 0:
		s.Objects = make([]api.Object, n)
	case 1:
		s.Programs = make([][]api.Op, n)
	case 2:
		s.Programs[0] = make([]api.Op, n)
	case 3:
		s.Programs = [][]api.Op{nil, nil, make([]api.Op, n), nil}
	case 4:
		s.Picks = make([]api.Pick, n)
	}
	return s
}

// P6.2: a list of more than 2^16 is none, though its elements are there; one of as many is a list, but too large.
func TestLongLists(t *testing.T) {
	for list, most := range []int{6, 8, 16, 16, 4000} {
		for _, n := range []int{most + 1, 8191, 8192, 65535, 65536} {
			refused(t, strconv.Itoa(n)+" in list "+strconv.Itoa(list), many(list, n), api.ErrLarge)
		}
		for _, n := range []int{65537, 65538, 70000, 131072} {
			what := strconv.Itoa(n) + " in list " + strconv.Itoa(list)
			s := many(list, n)
			fails(t, what, written(s), api.ErrForm)
			if b, err := pack.Put(s); err != api.ErrLarge || b != nil {
				t.Errorf("%s: Put: %d bytes, %v; want none, ErrLarge", what, len(b), err)
			}
		}
	}
}

// P6.1 and P6.2: what prog.Check tells of scripts that may not be.
func TestChecks(t *testing.T) {
	fails(t, "nothing at all", []byte{0, 0, 0}, api.ErrArg)
	refused(t, "nothing at all", api.Script{}, api.ErrArg)
	for i, fault := range []func(s *api.Script){
		func(s *api.Script) { s.Objects = nil },
		func(s *api.Script) { s.Programs = nil },
		func(s *api.Script) { s.Objects[0].Kind = 0 },
		func(s *api.Script) { s.Objects[0].Kind = -1 },
		func(s *api.Script) { s.Objects[5].Kind = 6 },
		func(s *api.Script) { s.Objects[5].N = 1001 },
		func(s *api.Script) { s.Objects[2].N = math.MinInt },
		func(s *api.Script) { s.Objects[2].N = math.MaxInt },
		func(s *api.Script) { s.Programs[0][0].Kind = 20 },
		func(s *api.Script) { s.Programs[0][0].Obj = 6 },
		func(s *api.Script) { s.Programs[7][15].Obj = -1 },
		func(s *api.Script) { s.Programs[7][15].N = 0 },
		func(s *api.Script) { s.Programs[7][15].Wait = -2 },
		func(s *api.Script) { s.Programs[7][15].Wait = 1<<40 + 1 },
		func(s *api.Script) { s.Programs[3][6] = api.Op{Kind: api.OpUnlock, Breaks: true} },
		func(s *api.Script) { s.Programs[3][6] = api.Op{Kind: api.OpUnlock, Wait: -1} },
		func(s *api.Script) { s.Picks[0].Kind = 0 },
		func(s *api.Script) { s.Picks[3999].Kind = 5 },
		func(s *api.Script) { s.Picks[3999].N = -1 },
		func(s *api.Script) { s.Picks[0].N = 9 },
	} {
		s := full()
		fault(&s)
		refused(t, "fault "+strconv.Itoa(i), s, api.ErrArg)
		s.Picks = append(s.Picks, api.Pick{})
		refused(t, "fault "+strconv.Itoa(i)+", and too many", s, api.ErrLarge)
	}
}

// P6.2: bytes that are none are told ahead of a script that may not be, wherever either stands.
func TestFormIsFirst(t *testing.T) {
	bad, much := some(), some()
	bad.Objects[0].Kind = 9
	much.Objects = append(much.Objects, much.Objects...)
	for _, s := range []api.Script{bad, much, {}, many(0, 65536), many(2, 65536), many(4, 65536)} {
		b := written(s)
		fails(t, "cut short", b[:len(b)-1], api.ErrForm)
		fails(t, "with one more", append(b, 0), api.ErrForm)
		b[len(b)-1] |= 0x80
		fails(t, "the last byte without an end", b, api.ErrForm)
	}
	bad.Picks = append(bad.Picks, api.Pick{Kind: api.PickTick, N: 70})
	b := written(bad)
	fails(t, "a kind that is none", b, api.ErrArg)
	b[len(b)-1] = 0
	fails(t, "a kind that is none, and a number of too many bytes", b, api.ErrForm)
}

// P6.3: what is put is new memory: it stays as it is, whatever becomes of the script and of what was put ahead.
func TestPutIsNew(t *testing.T) {
	s := some()
	one, _ := pack.Put(s)
	other, _ := pack.Put(s)
	want := bytes.Clone(one)
	s.Objects[0].Kind, s.Programs[0][0].Wait, s.Picks[0].N = 3, 7, 1
	clear(other[:cap(other)])
	if !bytes.Equal(one, want) {
		t.Error("what was put is kept")
	}
}

// P6.3: what is got is new memory: neither the bytes, nor another answer, nor a list of the same answer has a part in it.
func TestGetIsNew(t *testing.T) {
	b := written(full())
	one, _ := pack.Get(b)
	other, _ := pack.Get(b)
	clear(b)
	clear(other.Objects)
	for _, ops := range other.Programs {
		clear(ops)
	}
	clear(other.Programs)
	clear(other.Picks)
	if !same(one, full()) {
		t.Error("what was got is kept")
	}
	for thread, ops := range one.Programs {
		ops = append(ops, ops...)
		clear(ops[len(one.Programs[thread]):])
	}
	_ = append(one.Objects, one.Objects...)
	_ = append(one.Picks, one.Picks...)
	if !same(one, full()) {
		t.Error("lists of one answer share memory")
	}
}

// P6.3: what lies behind the end of what is handed in stays as it is, too.
func TestWhatIsHandedInStays(t *testing.T) {
	whole := full()
	was := copied(whole)
	s := api.Script{Objects: whole.Objects[:6], Programs: whole.Programs[:4], Picks: whole.Picks[:10]}
	for i := range s.Programs {
		s.Programs[i] = s.Programs[i][:8]
	}
	_, err := pack.Put(s)
	for i := range s.Programs {
		s.Programs[i] = s.Programs[i][:16]
	}
	if err != nil || !same(whole, was) {
		t.Errorf("Put: %v; or it changed what was handed in", err)
	}
	b := written(some())
	all := append(bytes.Clone(b), 1, 2, 3, 0xff)
	behind := bytes.Clone(all)
	for n := range all {
		_, _ = pack.Get(all[:n])
	}
	if !bytes.Equal(all, behind) {
		t.Error("Get changed what was handed in")
	}
}

// P6.3: nothing is kept: what a call answers hangs on its argument alone, whatever was asked ahead of it.
func TestNothingIsKept(t *testing.T) {
	for range 3 {
		for _, call := range []func(){
			func() { _, _ = pack.Put(api.Script{}) },
			func() { _, _ = pack.Put(full()) },
			func() { _, _ = pack.Get(nil) },
			func() { _, _ = pack.Get([]byte{0, 0, 0}) },
			func() { _, _ = pack.Get(written(full())) },
			func() { _, _ = pack.Get(written(full())[:99]) },
			func() { _, _ = pack.Get(written(many(4, 65536))) },
		} {
			call()
			gives(t, "some", some(), written(some()))
			refused(t, "nothing", api.Script{}, api.ErrArg)
			fails(t, "no bytes", nil, api.ErrForm)
		}
	}
}

// chance is a row of numbers that look drawn by lot, the same in each run.
type chance uint32

// next is a number below n.
func (c *chance) next(n int) int {
	*c = *c*1664525 + 1013904223
	return int(*c>>8) % n
}

// long is a wait that may be, of any length.
func (c *chance) long() int64 { return (int64(1)<<c.next(41))/int64(1+c.next(3)) - int64(c.next(2)) }

// op is a call that may be, of so many objects.
func (c *chance) op(objects int) api.Op {
	op := api.Op{Kind: 1 + c.next(19), Obj: c.next(objects)}
	switch op.Kind {
	case api.OpAcquire, api.OpTrySome, api.OpRelease:
		op.N = 1 + c.next(1000)
	case api.OpSwap:
		op.N = c.next(1001)
	}
	if prog.Waits(op.Kind) {
		op.Wait, op.Breaks = c.long(), c.next(2) == 0
	}
	return op
}

// object is one that may be.
func (c *chance) object() api.Object {
	x := api.Object{Kind: 1 + c.next(5)}
	x.Fair = x.Kind != api.Latch && x.Kind != api.Swap && c.next(2) == 0
	if x.Kind == api.Sema || x.Kind == api.Latch {
		x.N = c.next(1001)
	}
	return x
}

// script is one that may be.
func (c *chance) script() api.Script {
	s := api.Script{}
	for range 1 + c.next(6) {
		s.Objects = append(s.Objects, c.object())
	}
	for range 1 + c.next(8) {
		var ops []api.Op
		for range c.next(17) {
			ops = append(ops, c.op(len(s.Objects)))
		}
		s.Programs = append(s.Programs, ops)
	}
	for range c.next(60) {
		p := api.Pick{Kind: 1 + c.next(4), N: int64(c.next(9))}
		if p.Kind == api.PickTick {
			p.N = max(c.long(), 0)
		}
		s.Picks = append(s.Picks, p)
	}
	return s
}

// spoiled is bytes with a fault or more: a byte that is another one, is left out, comes twice, or has another end.
func (c *chance) spoiled(b []byte) []byte {
	b = bytes.Clone(b)
	for range 1 + c.next(3) {
		at := c.next(len(b))
		switch c.next(5) {
		case 0:
			b[at] = byte(c.next(256))
		case 1:
			b = slices.Delete(b, at, at+1)
		case 2:
			b = slices.Insert(b, at, byte(c.next(256)))
		case 3:
			b[at] ^= 0x80
		case 4:
			b[at] ^= 2
		}
		if len(b) == 0 {
			return b
		}
	}
	return b
}

// told tells a fault if bytes aren't got as read has it, or what is got isn't put as those bytes. It answers what they came to.
func told(t *testing.T, b []byte) error {
	t.Helper()
	want, wrong := read(b)
	if wrong != nil {
		fails(t, "any bytes", b, wrong)
		return wrong
	}
	gives(t, "any bytes", want, b)
	return nil
}

// P6.4: a long row of scripts that may be are got as they were put; and P6.2, and P1, of their bytes with faults.
func TestManyScripts(t *testing.T) {
	c, came := chance(11), map[error]int{}
	for range 1500 {
		b := written(c.script())
		if err := told(t, b); err != nil {
			t.Fatal(err)
		}
		for range 10 {
			came[told(t, c.spoiled(b))]++
		}
	}
	if came[nil] < 100 || came[api.ErrForm] < 100 || came[api.ErrArg] < 100 {
		t.Errorf("too few of one to tell: %v", came)
	}
}

// P6.4, P6.2 and P1: all rows of few bytes from those that tell most.
func TestFewBytes(t *testing.T) {
	digits := []byte{0, 1, 2, 4, 0x7f, 0x80, 0xff}
	rows := [][]byte{{}}
	for range 6 {
		var longer [][]byte
		for _, row := range rows {
			_ = told(t, row)
			for _, d := range digits {
				longer = append(longer, append(bytes.Clone(row), d))
			}
		}
		rows = longer
	}
	for i := range 1 << 16 {
		_ = told(t, []byte{2, 2, 0, 0, 2, 0, byte(i), byte(i >> 8)})
		_ = told(t, []byte{2, 2, 0, 0, 2, 0, 2, byte(i), byte(i >> 8)})
		_ = told(t, []byte{2, 4, byte(i), byte(i >> 8), 2, 0, 0})
	}
}

// P6.2 and P1: rows of any bytes, most of which are none.
func TestAnyBytes(t *testing.T) {
	c := chance(5)
	for range 20000 {
		b := make([]byte, c.next(64))
		for i := range b {
			b[i] = byte(c.next(256)) & byte(0xff>>c.next(8))
		}
		_ = told(t, b)
	}
}
