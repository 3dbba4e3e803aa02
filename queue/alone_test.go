package queue_test

import (
	"math/rand"
	"slices"
	"testing"

	"thole/api"
	"thole/asm"
	"thole/cell"
	"thole/micro"
	"thole/permit"
	"thole/queue"
)

// node is one that stands in a queue: its status, whether it is shared, whether its thread parks, and whether the one ahead was told of it.
type node struct {
	status      int64
	shared      bool
	parks, told bool
}

// gone is the status of a node that gave up.
const gone = 1

// bench is a queue that routines are tried on, each one done alone: the head's place and then those of the nodes, the first one first.
type bench struct {
	t      *testing.T
	code   []api.Ins
	labels []api.Label
	a      *cell.Arena
	p      *permit.Table
	object int64
	at     []int64
	l      []node // without the head
}

// perm are the threads of nodes, by their places in the queue.
var perm = []int{5, 2, 7, 0, 3, 6, 1, 4}

// tryStubs are tries that each answer a number of their own, and what they were asked for.
const tryStubs = `
lock.try:
set r0 101
ret
lock.tryfair:
set r0 102
ret
sema.try:
set r0 103
ret
sema.tryfair:
set r0 104
ret
latch.try:
set r0 105
ret
rw.trywrite:
set r0 106
ret
rw.trywritefair:
set r0 107
ret
rw.tryread:
set r0 108
ret
rw.tryreadfair:
set r0 109
ret
test.done:
done r0
`

// lays is a queue of these nodes behind a head of that status. Where nodes lie has nothing to do with their order.
func lays(t *testing.T, head int64, l ...node) *bench {
	t.Helper()
	b := &bench{t: t, l: l, at: make([]int64, len(l)+1)}
	var err error
	if b.code, b.labels, err = asm.Assemble(queue.Code(), tryStubs); err != nil {
		t.Fatal(err)
	}
	if b.a, err = cell.New(200); err != nil {
		t.Fatal(err)
	}
	if b.p, err = permit.New(api.MaxThreads); err != nil {
		t.Fatal(err)
	}
	b.alloc(1)
	for i := range b.at {
		if i%2 == 0 {
			b.at[i] = b.alloc(7)
		}
	}
	b.object = b.alloc(16)
	for i := range b.at {
		if i%2 == 1 {
			b.at[i] = b.alloc(6)
		}
	}
	b.put(b.object, b.at[0], b.at[len(l)], 9, 8, api.Sema, 0)
	b.put(b.at[0], head, 0)
	for i, x := range l {
		at := b.at[i+1]
		b.put(at, x.status, b.at[i], 0, int64(perm[i]+1), bit(x.shared))
		if x.told {
			b.put(b.at[i]+2, at)
		}
		if x.parks {
			b.must(b.p.Park(perm[i], api.Forever))
		}
	}
	return b
}

// must is to be true, and no error.
func (b *bench) must(is bool, err error) {
	b.t.Helper()
	if !is || err != nil {
		b.t.Fatal(is, err)
	}
}

// alloc is the place of so many new cells.
func (b *bench) alloc(n int) int64 {
	b.t.Helper()
	at, err := b.a.Alloc(n)
	b.must(true, err)
	return int64(at)
}

// put makes cells, from a place on, these numbers.
func (b *bench) put(at int64, l ...int64) {
	b.t.Helper()
	for i, v := range l {
		b.must(true, b.a.Store(at+int64(i), v))
	}
}

// do does a routine alone, by a thread, and tells what it answers; it makes no marks.
func (b *bench) do(thread int, name string, args ...int64) int64 {
	b.t.Helper()
	l := micro.Start(asm.Find(b.labels, "test.done"))
	f := api.Frame{At: asm.Find(b.labels, name)}
	for i := range f.R {
		f.R[i] = int64(-1000 - i)
	}
	copy(f.R[:], args)
	f.R[14], f.R[15] = 1, 0
	l = append(l, f)
	for range 1000 {
		m, notes, how, v, err := micro.Step(b.code, b.a, b.p, thread, l)
		if err != nil || len(notes) > 0 || how != api.StepRan && how != api.StepDone {
			b.t.Fatalf("%s%v at %v: %v, %d, %v", name, args, l, notes, how, err)
		}
		if how == api.StepDone {
			return v
		}
		l = m
	}
	b.t.Fatalf("%s%v has no end", name, args)
	return 0
}

// cells are what all cells are, from place 1 on.
func (b *bench) cells() []int64 {
	l := make([]int64, b.a.Len())
	for i := range l {
		l[i] = load(b.t, b.a, int64(i+1))
	}
	return l
}

// live are the nodes of the queue that didn't give up.
func (b *bench) live() []int64 {
	return slices.DeleteFunc(nodes(b.t, b.a, b.object), func(at int64) bool { return load(b.t, b.a, at) == gone })
}

// first is the place in the queue of the first node behind the i-th that didn't give up, or 0. (The head's place is 0.)
func (b *bench) first(i int) int {
	for k := i + 1; k <= len(b.l); k++ {
		if b.l[k-1].status != gone {
			return k
		}
	}
	return 0
}

// unparked tells a fault if the k-th node's thread isn't unparked, or any other one is, or stands otherwise. (0: nobody's is.)
func (b *bench) unparked(k int) {
	b.t.Helper()
	for i, thread := range perm {
		want := api.Park{}
		if i < len(b.l) && b.l[i].parks {
			want = api.Park{Blocked: true, Deadline: api.Forever}
		}
		if i+1 == k {
			want = api.Park{Permit: !want.Blocked}
		}
		if x, err := b.p.At(thread); x != want || err != nil {
			b.t.Errorf("of %+v, thread %d, of node %d: %+v, %v; want %+v", b.l, thread, i+1, x, err, want)
		}
	}
}

// runner is a thread of the queue that doesn't park; lays' queues leave thread 4 to be one, if they have less than 8 nodes.
const runner = 4

// queues shows queues of up to 8 nodes: short ones all of them, as to statuses, and long ones by chance.
func queues(see func(l []node)) {
	statuses := []int64{0, -1, gone, -3}
	r := rand.New(rand.NewSource(12))
	chance := func(l []node) []node {
		l = slices.Clone(l)
		for i := range l {
			l[i].shared, l[i].parks, l[i].told = r.Intn(2) == 0, r.Intn(2) == 0, r.Intn(3) > 0
		}
		if len(l) == len(perm) {
			l[len(l)-1].parks = false
		}
		return l
	}
	for n := range 5 {
		l := make([]node, n)
		for k := range 1 << (2 * n) {
			for i := range l {
				l[i].status = statuses[k>>(2*i)%4]
			}
			see(chance(l))
		}
	}
	for n := 5; n <= len(perm); n++ {
		l := make([]node, n)
		for range 100 {
			for i := range l {
				l[i].status = statuses[r.Intn(4)]
			}
			see(chance(l))
		}
	}
}

// changed tells a fault if cells other than these are changed.
func (b *bench) changed(before []int64, may ...int64) {
	b.t.Helper()
	for i, v := range b.cells() {
		if at := int64(i + 1); at > int64(len(before)) || v != before[i] && !slices.Contains(may, at) {
			b.t.Errorf("of %+v, at %v, object %d: the cell at %d is changed to %d", b.l, b.at, b.object, at, v)
		}
	}
}

// P12.2: enq.
func TestEnq(t *testing.T) {
	queues(func(l []node) {
		b := lays(t, -1, l...)
		live, at := b.live(), b.alloc(6)
		b.put(at, 0, 70, 0, 60, 1)
		before, tail := b.cells(), b.at[len(l)]
		if v := b.do(runner, "queue.enq", b.object, at); v != tail {
			t.Errorf("of %+v enq answers %d; want %d", l, v, tail)
		}
		if got := nodes(t, b.a, b.object); !slices.Equal(got, slices.Concat(b.at[1:], []int64{at})) {
			t.Errorf("of %+v, at %v, enq of %d comes to %v", l, b.at, at, got)
		}
		if got := b.live(); !slices.Equal(got, append(live, at)) {
			t.Errorf("of %+v, live %v, enq of %d comes to %v", l, live, at, got)
		}
		b.changed(before, b.object+1, at+1, tail+2)
		if got := load(t, b.a, tail+2); got != at {
			t.Errorf("of %+v the node behind the last one is %d; want %d", l, got, at)
		}
		b.unparked(0)
	})
}

// The chapter's example: a queue of nobody, enq of a node: head, node.
func TestEnqOfNobody(t *testing.T) {
	b := lays(t, 0)
	at := b.alloc(6)
	if v := b.do(0, "queue.enq", b.object, at); v != b.at[0] {
		t.Errorf("enq answers %d; want the head, %d", v, b.at[0])
	}
	if head, tail, ahead := load(t, b.a, b.object), load(t, b.a, b.object+1), load(t, b.a, at+1); head != b.at[0] || tail != at || ahead != head {
		t.Errorf("head %d, tail %d, ahead of it %d; want %d, %d, %d", head, tail, ahead, b.at[0], at, b.at[0])
	}
}

// P12.2: cancel, of each live node.
func TestCancel(t *testing.T) {
	queues(func(l []node) {
		for k := 1; k <= len(l); k++ {
			if l[k-1].status == gone {
				continue
			}
			b := lays(t, -1, l...)
			live, at, before := b.live(), b.at[k], b.cells()
			b.do(runner, "queue.cancel", b.object, at)
			if status, thread := load(t, b.a, at), load(t, b.a, at+3); status != gone || thread != 0 {
				t.Errorf("of %+v, cancel of node %d: status %d, thread %d", l, k, status, thread)
			}
			want := slices.DeleteFunc(live, func(x int64) bool { return x == at })
			if got := b.live(); !slices.Equal(got, want) {
				t.Errorf("of %+v, at %v, cancel of node %d comes to %v; want %v", l, b.at, k, got, want)
			}
			ahead := k - 1
			for ahead > 0 && l[ahead-1].status == gone {
				ahead--
			}
			// The one ahead may be told that it is to unpark the one behind it.
			b.changed(before, b.object+1, at, at+1, at+2, at+3, b.at[ahead], b.at[ahead]+2)
			if s := load(t, b.a, b.at[ahead]); s == gone || b.first(k) > 0 && s != -1 && b.first(0) != k {
				t.Errorf("of %+v, cancel of node %d: the one ahead has status %d, so it never unparks the one behind", l, k, s)
			}
			if got := load(t, b.a, at+1); got != b.at[ahead] {
				t.Errorf("of %+v, cancel of node %d: ahead of it is %d; want %d, for searches go by it", l, k, got, b.at[ahead])
			}
			if b.first(0) == k {
				b.unparked(b.first(k))
			} else {
				b.unparked(0)
			}
		}
	})
}

// P12.2: cancel, by the thread itself, of all nodes of a queue, in any order: the ones that are left stand in their order, to the last; then it is a queue of nobody.
func TestCancelAll(t *testing.T) {
	r := rand.New(rand.NewSource(21))
	for range 300 {
		n := 1 + r.Intn(len(perm))
		b := lays(t, -1, slices.Repeat([]node{{told: true}}, n)...)
		live := b.live()
		for _, i := range r.Perm(n) {
			b.do(perm[i], "queue.cancel", b.object, b.at[i+1])
			live = slices.DeleteFunc(live, func(x int64) bool { return x == b.at[i+1] })
			if got := b.live(); !slices.Equal(got, live) {
				t.Fatalf("of %d nodes, cancel of node %d: %v; want %v", n, i+1, got, live)
			}
			if tail := load(t, b.a, b.object+1); load(t, b.a, tail) == gone {
				t.Fatalf("of %d nodes, cancel of node %d: the tail gave up", n, i+1)
			}
		}
		at := b.alloc(6)
		b.do(runner, "queue.enq", b.object, at)
		if got := b.live(); !slices.Equal(got, []int64{at}) {
			t.Fatalf("behind all that gave up: %v; want %d", got, at)
		}
	}
}

// P12.2: unps, of the head and each node.
func TestUnps(t *testing.T) {
	queues(func(l []node) {
		for k := range len(l) + 1 {
			b := lays(t, -1, l...)
			before := b.cells()
			b.do(runner, "queue.unps", b.object, b.at[k])
			b.unparked(b.first(k))
			b.changed(before)
		}
	})
}

// Rel and share: unps of the head, if its status isn't 0.
func TestRelAndShare(t *testing.T) {
	queues(func(l []node) {
		for _, head := range []int64{0, -1, -3} {
			for _, name := range []string{"queue.rel", "queue.share"} {
				b := lays(t, head, l...)
				before := b.cells()
				b.do(runner, name, b.object)
				if head == 0 {
					b.unparked(0)
				} else {
					b.unparked(b.first(0))
				}
				b.changed(before)
			}
		}
	})
}

// Pred: whether the first one behind the head is another thread's, whatever register 1 is.
func TestPred(t *testing.T) {
	queues(func(l []node) {
		for i, thread := range perm {
			if i < len(l) && l[i].parks {
				continue
			}
			b := lays(t, 0, l...)
			want, before := int64(0), b.cells()
			if k := b.first(0); k > 0 && perm[k-1] != thread {
				want = 1
			}
			if v := b.do(thread, "queue.pred", b.object, b.at[len(l)]); v != want {
				t.Errorf("of %+v pred answers thread %d, of node %d, %d; want %d", l, thread, i+1, v, want)
			}
			b.changed(before)
			b.unparked(0)
		}
	})
}

// Try: by kind and fairness, and of a RW by what is asked for.
func TestTry(t *testing.T) {
	for _, c := range []struct{ kind, fair, asked, want int64 }{
		{api.Lock, 0, 1, 101}, {api.Lock, 1, 1, 102}, {api.Lock, 0, 1000, 101}, {api.Lock, 1, 7, 102},
		{api.Sema, 0, -1, 103}, {api.Sema, 1, -1, 104}, {api.Sema, 0, -1000, 103},
		{api.Latch, 0, 0, 105}, {api.Latch, 0, 1, 105},
		{api.RW, 0, 1, 106}, {api.RW, 1, 1, 107}, {api.RW, 0, -1, 108}, {api.RW, 1, -1, 109},
	} {
		b := lays(t, 0)
		b.put(b.object+4, c.kind, c.fair)
		if v := b.do(runner, "queue.try", b.object, c.asked); v != c.want {
			t.Errorf("try of kind %d, fair %d, asked for %d: %d; want %d", c.kind, c.fair, c.asked, v, c.want)
		}
	}
}
