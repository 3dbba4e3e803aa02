package queue_test

import (
	"slices"
	"testing"

	"thole/api"
)

// This file has calls by acq and again, step by step: who stands in the queue when, and what each call comes to.

const forever = api.Forever

// Calls, and objects, in short.
var (
	toLock    = api.Op{Kind: api.OpLock, Wait: forever}
	toTry     = api.Op{Kind: api.OpTry}
	toUnlock  = api.Op{Kind: api.OpUnlock}
	toRead    = api.Op{Kind: api.OpRead, Wait: forever}
	toUnread  = api.Op{Kind: api.OpUnread}
	toWrite   = api.Op{Kind: api.OpWrite, Wait: forever}
	toUnwrite = api.Op{Kind: api.OpUnwrite}
	toDrain   = api.Op{Kind: api.OpDrain}
	toAwait   = api.Op{Kind: api.OpAwait, Wait: forever}
	toDown    = api.Op{Kind: api.OpDown}
	toWait    = api.Op{Kind: api.OpWait, Wait: forever}
	toSignal  = api.Op{Kind: api.OpSignal}
	aLock     = api.Object{Kind: api.Lock}
	aRW       = api.Object{Kind: api.RW}
)

// within is the call, waiting so long at most.
func within(ticks int64, o api.Op) api.Op {
	o.Wait = ticks
	return o
}

// breaks is the call, ended by an interrupt.
func breaks(o api.Op) api.Op {
	o.Breaks = true
	return o
}

// toAcquire is to ask for so many permits.
func toAcquire(n int) api.Op { return api.Op{Kind: api.OpAcquire, N: n, Wait: forever} }

// toTrySome is to try for so many.
func toTrySome(n int) api.Op { return api.Op{Kind: api.OpTrySome, N: n} }

// toRelease is to give so many.
func toRelease(n int) api.Op { return api.Op{Kind: api.OpRelease, N: n} }

// aSema is one of so many permits.
func aSema(n int) api.Object { return api.Object{Kind: api.Sema, N: n} }

// aLatch is one of that count.
func aLatch(n int) api.Object { return api.Object{Kind: api.Latch, N: n} }

// fair is the object, but fair.
func fair(o api.Object) api.Object {
	o.Fair = true
	return o
}

// alone steps a thread until its call returns, or it parks.
func (r *run) alone(t *testing.T, threads ...int) {
	t.Helper()
	for _, i := range threads {
		for n := 0; r.goes(i) && !r.step(t, i); n++ {
			if n == 200 {
				t.Fatalf("thread %d goes on and on: events %v", i, r.events)
			}
		}
	}
}

// stands tells a fault if other threads, or in another order, stand in the queue of the first object.
func (r *run) stands(t *testing.T, want ...int) {
	t.Helper()
	if got := r.queue(t, r.objects[0]); !slices.Equal(got, want) {
		t.Errorf("the queue is %v; want %v; events %v", got, want, r.events)
	}
}

// came tells a fault if a thread's last call isn't over, with that result and these marks.
func (r *run) came(t *testing.T, i, result int, marks ...api.Note) {
	t.Helper()
	l := slices.Clone(r.events)
	slices.Reverse(l)
	l = slices.DeleteFunc(l, func(e api.Event) bool { return e.Thread != i })
	if len(l) == 0 || l[0].Kind != api.EvReturn || l[0].Value != result || l[0].Got != 0 {
		t.Fatalf("thread %d comes to %v; want a return of %d", i, l, result)
	}
	got := []api.Note{}
	for _, e := range l[1:] {
		if e.Kind == api.EvCall {
			break
		}
		if e.Kind == api.EvMark {
			got = append([]api.Note{e.Note}, got...)
		}
	}
	if !slices.Equal(got, marks) {
		t.Errorf("thread %d's marks are %v; want %v", i, got, marks)
	}
}

// flagged tells whether a thread's flag is set.
func (r *run) flagged(t *testing.T, i int) bool {
	t.Helper()
	x, err := r.p.At(i)
	if err != nil {
		t.Fatal(err)
	}
	return x.Flag
}

// tick lets time pass.
func (r *run) tick(t *testing.T, ticks int64) {
	t.Helper()
	if err := r.p.Tick(ticks); err != nil {
		t.Fatal(err)
	}
}

// note is a mark.
func note(kind int, v int64) api.Note { return api.Note{Kind: kind, Value: v} }

// over tells a fault if something is on yet, or what came of the run may not have been, or a wakeup was lost.
func (r *run) over(t *testing.T) {
	t.Helper()
	if !r.quiet() {
		t.Fatalf("a thread goes on: events %v", r.events)
	}
	r.held(t)
	r.settled(t)
}

// What is free is had at once, and nobody stands in the queue.
func TestHadAtOnce(t *testing.T) {
	r := begin(t, []api.Object{aLock}, []api.Op{toLock, within(0, toLock), toUnlock, toUnlock})
	cells := r.a.Len()
	r.alone(t, 0)
	r.came(t, 0, api.Good, note(api.MkTake, 1))
	r.alone(t, 0)
	r.came(t, 0, api.Good, note(api.MkTake, 1))
	r.alone(t, 0, 0)
	r.stands(t)
	if r.a.Len() != cells {
		t.Errorf("%d cells are new", r.a.Len()-cells)
	}
	r.over(t)
}

// Two that lock: the second one stands in the queue, and parks, till the first one unlocks; so does the third one.
func TestStandsInTheQueue(t *testing.T) {
	for _, o := range []api.Object{aLock, fair(aLock)} {
		r := begin(t, []api.Object{o}, []api.Op{toLock, toUnlock}, []api.Op{toLock, toUnlock}, []api.Op{toLock, toUnlock})
		r.alone(t, 0, 1, 2)
		r.stands(t, 1, 2)
		if r.goes(1) || r.goes(2) {
			t.Fatal("who may not go on doesn't park")
		}
		r.alone(t, 0)
		if !r.goes(1) || r.goes(2) {
			t.Fatal("not the first one, alone, is unparked")
		}
		r.alone(t, 1)
		r.came(t, 1, api.Good, note(api.MkTake, 1))
		r.stands(t, 2)
		r.alone(t, 1, 2, 2)
		r.came(t, 2, api.Good, note(api.MkFree, 0))
		r.stands(t)
		r.over(t)
	}
}

// Who is woken without a reason parks again.
func TestWokenWithoutReason(t *testing.T) {
	r := begin(t, []api.Object{aLock}, []api.Op{toLock, toUnlock}, []api.Op{toLock}, []api.Op{toLock})
	r.alone(t, 0, 1, 2)
	for _, i := range []int{1, 2, 1} {
		if err := r.p.Wake(i); err != nil {
			t.Fatal(err)
		}
		r.alone(t, i)
		r.stands(t, 1, 2)
	}
	if r.goes(1) || r.goes(2) {
		t.Fatal("who may not go on doesn't park")
	}
	r.alone(t, 0, 1)
	r.came(t, 1, api.Good, note(api.MkTake, 1))
}

// A wait that is over: Late; the queue goes on without it. At a deadline that is due ahead of all nobody stands in the queue.
func TestLate(t *testing.T) {
	r := begin(t, []api.Object{aLock}, []api.Op{toLock, toUnlock}, []api.Op{within(5, toLock)}, []api.Op{toLock}, []api.Op{within(0, toLock)})
	r.alone(t, 0, 1, 2)
	cells := r.a.Len()
	r.alone(t, 3)
	r.came(t, 3, api.Late, note(api.MkQuit, 0))
	r.stands(t, 1, 2)
	if r.a.Len() != cells {
		t.Error("who doesn't wait has a node")
	}
	r.tick(t, 4)
	if r.goes(1) {
		t.Fatal("it doesn't park till its time is over")
	}
	r.tick(t, 1)
	r.alone(t, 1)
	r.came(t, 1, api.Late, note(api.MkQuit, 0))
	r.stands(t, 2)
	r.alone(t, 2)
	r.alone(t, 0, 2)
	r.came(t, 2, api.Good, note(api.MkTake, 1))
	r.over(t)
}

// An interrupt of one that parks in a call that breaks: Broken, and its flag is taken back.
func TestBroken(t *testing.T) {
	r := begin(t, []api.Object{aLock}, []api.Op{toLock, toUnlock}, []api.Op{breaks(toLock), breaks(within(0, toLock))}, []api.Op{toLock})
	r.alone(t, 0, 1, 2)
	r.interrupt(t, 1)
	r.alone(t, 1)
	r.came(t, 1, api.Broken, note(api.MkQuit, 0))
	r.stands(t, 2)
	if r.flagged(t, 1) {
		t.Error("the interrupt is there still")
	}
	r.interrupt(t, 1)
	r.alone(t, 1)
	r.came(t, 1, api.Broken, note(api.MkQuit, 0))
	if r.flagged(t, 1) {
		t.Error("the interrupt is there still")
	}
	r.alone(t, 2)
	r.alone(t, 0, 2)
	r.over(t)
}

// An interrupt of one whose call doesn't break is put off: it parks again, and has its flag behind the call.
func TestPutOff(t *testing.T) {
	for _, o := range []api.Op{toLock, within(9, toLock)} {
		r := begin(t, []api.Object{aLock}, []api.Op{toLock, toUnlock}, []api.Op{o})
		r.alone(t, 0)
		r.interrupt(t, 1)
		r.alone(t, 1)
		r.interrupt(t, 1)
		r.alone(t, 1)
		r.stands(t, 1)
		if r.goes(1) || r.flagged(t, 1) {
			t.Fatal("it doesn't park with the interrupt put off")
		}
		if o.Wait == forever {
			r.alone(t, 0, 1)
			r.came(t, 1, api.Good, note(api.MkTake, 1))
		} else {
			r.tick(t, 9)
			r.alone(t, 1)
			r.came(t, 1, api.Late, note(api.MkQuit, 0))
		}
		if !r.flagged(t, 1) {
			t.Error("the interrupt is gone")
		}
		r.held(t)
	}
}

// Who breaks has its flag still, if it gets what it asked for.
func TestGoodWithAFlag(t *testing.T) {
	r := begin(t, []api.Object{aLock}, []api.Op{breaks(toLock), toUnlock})
	r.interrupt(t, 0)
	r.alone(t, 0)
	r.came(t, 0, api.Good, note(api.MkTake, 1))
	if !r.flagged(t, 0) {
		t.Error("the interrupt is gone")
	}
}

// No cells are left for a node: Full, without a mark, and nobody stands in the queue.
func TestFull(t *testing.T) {
	for _, left := range []int{0, 5, 6} {
		r := begin(t, []api.Object{aLock}, []api.Op{toLock}, []api.Op{toLock})
		r.alone(t, 0)
		if n := api.MaxCells - r.a.Len() - left; n > 0 {
			if _, err := r.a.Alloc(n); err != nil {
				t.Fatal(err)
			}
		}
		r.alone(t, 1)
		if left < 6 {
			r.came(t, 1, api.Full)
			r.stands(t)
		} else {
			r.stands(t, 1)
		}
		r.held(t)
	}
}

// Over, at once, and of one that stands in the queue: it gives up, and the one behind it is unparked.
func TestOver(t *testing.T) {
	r := begin(t, []api.Object{aRW}, []api.Op{toWrite, toRead}, []api.Op{toRead}, []api.Op{toWrite}, []api.Op{within(3, toRead)})
	r.alone(t, 0, 1, 2)
	r.stands(t, 1, 2)
	// No script reads so often, so it is stored: all the reads there may be, and nobody writes.
	for at, v := range map[int64]int64{2: api.MaxCount, 3: 0, 14: 0} {
		if err := r.a.Store(r.objects[0]+at, v); err != nil {
			t.Fatal(err)
		}
	}
	r.things[0].Owner, r.things[0].Holds, r.things[0].Reads = -1, 0, [api.MaxThreads]int{7: api.MaxCount}
	if err := r.p.Wake(1); err != nil {
		t.Fatal(err)
	}
	r.alone(t, 1)
	r.came(t, 1, api.Over, note(api.MkOver, 1))
	r.stands(t, 2)
	if !r.goes(2) {
		t.Error("the one behind it isn't unparked")
	}
	r.alone(t, 3)
	r.came(t, 3, api.Over, note(api.MkOver, 1))
	r.stands(t, 2)
}

// Those that share go on together, up to the first one that doesn't.
func TestShared(t *testing.T) {
	r := begin(t, []api.Object{aRW}, []api.Op{toWrite, toUnwrite}, []api.Op{toRead, toUnread}, []api.Op{toRead, toUnread}, []api.Op{toWrite}, []api.Op{toRead})
	r.alone(t, 0, 1, 2, 3, 4)
	r.stands(t, 1, 2, 3, 4)
	r.alone(t, 0)
	if !r.goes(1) || r.goes(2) {
		t.Fatal("not the first one, alone, is unparked")
	}
	r.alone(t, 1)
	if !r.goes(2) {
		t.Fatal("the one that shares isn't unparked")
	}
	r.alone(t, 2)
	r.stands(t, 3, 4)
	if r.goes(3) || r.goes(4) {
		t.Fatal("who can't go on yet is unparked")
	}
	r.alone(t, 1)
	if r.goes(3) {
		t.Fatal("the one that writes is unparked ahead of the last that reads")
	}
	r.alone(t, 2, 3)
	r.came(t, 3, api.Good, note(api.MkTake, 1))
	r.stands(t, 4)
	r.over(t)
}

// A latch that opens lets all go on, one behind the other; one that gave up among them, too.
func TestOpened(t *testing.T) {
	r := begin(t, []api.Object{aLatch(1)}, []api.Op{toAwait}, []api.Op{within(2, toAwait)}, []api.Op{toAwait}, []api.Op{toDown})
	r.alone(t, 0, 1, 2)
	r.tick(t, 2)
	r.alone(t, 1)
	r.stands(t, 0, 2)
	r.alone(t, 3, 0, 2)
	r.came(t, 2, api.Good, note(api.MkTake, 0))
	r.stands(t)
	r.over(t)
}

// The first one of a fair queue has what it asks for ahead of those that come later.
func TestFair(t *testing.T) {
	for _, is := range []bool{false, true} {
		o := aSema(1)
		o.Fair = is
		r := begin(t, []api.Object{o}, []api.Op{toAcquire(2)}, []api.Op{toAcquire(1)}, []api.Op{toRelease(1)})
		r.alone(t, 0, 1)
		if is {
			r.stands(t, 0, 1)
			r.alone(t, 2, 0)
			r.came(t, 0, api.Good, note(api.MkTake, 2))
			r.alone(t, 1)
			r.stands(t, 1)
		} else {
			r.came(t, 1, api.Good, note(api.MkTake, 1))
			r.stands(t, 0)
		}
		r.alone(t, 2, 0)
		r.over(t)
	}
}

// Again: by a node of the queue, as long as it takes, and with as many holds as are asked for; interrupts are put off.
func TestAgain(t *testing.T) {
	r := begin(t, []api.Object{aLock}, []api.Op{toLock, toLock, toWait, toUnlock, toUnlock}, []api.Op{toLock, toSignal, toUnlock})
	r.alone(t, 0, 0, 0, 1)
	r.stands(t)
	r.alone(t, 1)
	r.alone(t, 0)
	r.stands(t, 0)
	r.interrupt(t, 0)
	r.tick(t, api.MaxWait)
	r.alone(t, 0)
	r.stands(t, 0)
	if r.goes(0) {
		t.Fatal("it doesn't park")
	}
	r.alone(t, 1, 0)
	r.came(t, 0, api.Good, note(api.MkWait, 2), note(api.MkTake, 2))
	if !r.flagged(t, 0) {
		t.Error("the interrupt is gone")
	}
	r.alone(t, 0, 0)
	r.stands(t)
	r.over(t)
}

// Who becomes the head is nobody's, with nobody ahead.
func TestHeadIsNobodys(t *testing.T) {
	r := begin(t, []api.Object{aLock}, []api.Op{toLock, toUnlock}, []api.Op{toLock})
	first := load(t, r.a, r.objects[0])
	r.alone(t, 0, 1, 0, 1)
	head := load(t, r.a, r.objects[0])
	if head == first || head != load(t, r.a, r.objects[0]+1) || load(t, r.a, head+1) != 0 || load(t, r.a, head+3) != 0 {
		t.Errorf("the head, %d, of tail %d, ahead %d, thread %d", head, load(t, r.a, r.objects[0]+1), load(t, r.a, head+1), load(t, r.a, head+3))
	}
}

// A node has its thread, and whether it is shared.
func TestNodes(t *testing.T) {
	r := begin(t, []api.Object{aRW}, []api.Op{toWrite}, []api.Op{toRead}, []api.Op{toWrite})
	r.alone(t, 0, 1, 2)
	l := nodes(t, r.a, r.objects[0])
	if len(l) != 2 {
		t.Fatal(l)
	}
	for i, want := range [][5]int64{{-1, load(t, r.a, r.objects[0]), l[1], 2, 1}, {0, l[0], 0, 3, 0}} {
		for k, v := range want {
			if got := load(t, r.a, l[i]+int64(k)); got != v {
				t.Errorf("node %d's cell +%d is %d; want %d", i, k, got, v)
			}
		}
	}
}

// A node that gave up may have left the queue, when somebody looks for those behind it: then the search ends at the head.
func TestUnpsOfOneThatLeft(t *testing.T) {
	b := lays(t, -1, node{}, node{}, node{parks: true})
	b.do(perm[0], "queue.cancel", b.object, b.at[1])
	// Its thread was unparked, so it asks, and stands behind the head itself; then it parks.
	b.put(b.at[2]+1, b.at[0])
	if _, err := b.p.Park(perm[1], forever); err != nil {
		t.Fatal(err)
	}
	b.must(b.p.Park(perm[1], forever))
	b.do(runner, "queue.unps", b.object, b.at[1])
	for i, thread := range []int{perm[1], perm[2]} {
		if x, err := b.p.At(thread); err != nil || x.Blocked != (i == 1) {
			t.Errorf("thread %d: %+v, %v", thread, x, err)
		}
	}
}

// What is ahead of a node that stands behind one that gave up is the one ahead of that, once its thread has asked again.
func TestLeftOut(t *testing.T) {
	r := begin(t, []api.Object{aLock}, []api.Op{toLock}, []api.Op{within(1, toLock)}, []api.Op{within(2, toLock)}, []api.Op{toLock})
	r.alone(t, 0, 1, 2, 3)
	l := nodes(t, r.a, r.objects[0])
	r.tick(t, 1)
	r.alone(t, 1, 2)
	if got := nodes(t, r.a, r.objects[0]); !slices.Equal(got, l[1:]) {
		t.Errorf("the nodes are %v; want %v", got, l[1:])
	}
	r.tick(t, 1)
	r.alone(t, 2, 3)
	head := load(t, r.a, r.objects[0])
	if got := nodes(t, r.a, r.objects[0]); !slices.Equal(got, l[2:]) || load(t, r.a, head+2) != l[2] || load(t, r.a, l[2]+1) != head {
		t.Errorf("the nodes are %v; want %v, the head and it next to each other", got, l[2:])
	}
	r.stands(t, 3)
}
