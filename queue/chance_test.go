package queue_test

import (
	"math/rand"
	"slices"
	"testing"

	"thole/api"
)

// turns lets each thread do a step in turn, so often at most, as long as one goes on, and tells how many turns it took.
func (r *run) turns(t *testing.T, most int) int {
	t.Helper()
	for n := range most {
		if r.quiet() {
			return n
		}
		for i := range r.callers {
			if r.goes(i) {
				r.step(t, i)
			}
		}
	}
	if !r.quiet() {
		t.Fatalf("threads go on behind %d turns: events %v", most, r.events)
	}
	return most
}

// picks does so many picks by chance.
func (r *run) picks(t *testing.T, c *rand.Rand, n int) {
	t.Helper()
	for range n {
		i := c.Intn(len(r.callers))
		switch k := c.Intn(60); {
		case k == 0:
			r.tick(t, int64(c.Intn(4)))
		case k == 1:
			r.interrupt(t, i)
		case k == 2:
			if err := r.p.Wake(i); err != nil {
				t.Fatal(err)
			}
		case r.goes(i):
			r.step(t, i)
		}
	}
}

// kinds are calls of each kind of object.
var kinds = map[int][]int{
	api.Lock:  {api.OpLock, api.OpLock, api.OpTry, api.OpUnlock, api.OpUnlock, api.OpUnlock, api.OpWait, api.OpSignal},
	api.Sema:  {api.OpAcquire, api.OpAcquire, api.OpAcquire, api.OpTrySome, api.OpRelease, api.OpRelease, api.OpRelease, api.OpDrain},
	api.Latch: {api.OpAwait, api.OpDown},
	api.RW:    {api.OpRead, api.OpRead, api.OpUnread, api.OpUnread, api.OpWrite, api.OpUnwrite},
}

// call is a call by chance, of one of these objects.
func call(c *rand.Rand, objects []api.Object) api.Op {
	at := c.Intn(len(objects))
	l := kinds[objects[at].Kind]
	o := api.Op{Kind: l[c.Intn(len(l))], Obj: at}
	switch o.Kind {
	case api.OpAcquire, api.OpTrySome:
		o.N = 1 + c.Intn(3)
	case api.OpRelease:
		o.N = 1 + c.Intn(2)
	}
	if slices.Contains([]int{api.OpLock, api.OpAcquire, api.OpAwait, api.OpRead, api.OpWrite, api.OpWait}, o.Kind) {
		o.Wait, o.Breaks = []int64{forever, forever, 0, 1, 3, 9}[c.Intn(6)], c.Intn(2) == 0
	}
	return o
}

// Long runs by chance, of up to 8 threads: nobody is trapped, the histories may have been, and no wakeup is lost.
func TestByChance(t *testing.T) {
	c, results := rand.New(rand.NewSource(1)), map[int]int{}
	for range 1500 {
		objects := make([]api.Object, 1+c.Intn(3))
		for i := range objects {
			objects[i] = api.Object{Kind: 1 + c.Intn(4)}
			if objects[i].Kind == api.Sema || objects[i].Kind == api.Latch {
				objects[i].N = c.Intn(4)
			}
			if objects[i].Kind == api.Sema && c.Intn(4) == 0 {
				objects[i].N = api.MaxCount - c.Intn(4)
			}
			objects[i].Fair = objects[i].Kind != api.Latch && c.Intn(2) == 0
		}
		programs := make([][]api.Op, 1+c.Intn(api.MaxThreads))
		for i := range programs {
			for range c.Intn(api.MaxOps + 1) {
				programs[i] = append(programs[i], call(c, objects))
			}
		}
		r := begin(t, objects, programs...)
		for range 4 {
			r.picks(t, c, 300)
			r.turns(t, 3000)
			r.over(t)
			r.tick(t, int64(c.Intn(10)))
		}
		for _, e := range r.events {
			if e.Kind == api.EvReturn {
				results[e.Value]++
			}
		}
	}
	for _, v := range []int{api.Good, api.Bad, api.Broken, api.Late, api.Monitor, api.Over} {
		if results[v] < 100 {
			t.Errorf("%d calls that came to %d tell too little", results[v], v)
		}
	}
}

// Threads that lock and unlock, ask for permits and give them back, or count a latch down and await it, come through, whatever came ahead, in the turns that the document has for it (T5).
func TestTurns(t *testing.T) {
	c := rand.New(rand.NewSource(5))
	for _, x := range []struct {
		o                    api.Object
		l                    []api.Op
		threads, times, most int
	}{
		{aLock, calls(toLock, toUnlock), 2, 4, 1500},
		{aLock, calls(toLock, toUnlock), 4, 2, 800},
		{aSema(2), calls(toAcquire(2), toRelease(2)), 4, 1, 500},
		{aSema(3), calls(toAcquire(1), toAcquire(1), toRelease(2)), 2, 1, 500},
		{aLatch(4), calls(toDown, toAwait), 4, 1, 500},
		{aLatch(5), calls(toDown, toDown, toAwait, toDown, toAwait), 3, 1, 500},
	} {
		longest := 0
		for k := range 600 {
			o := x.o
			o.Fair = o.Kind != api.Latch && k%2 == 0
			programs := make([][]api.Op, x.threads)
			for i := range programs {
				programs[i] = slices.Repeat(x.l, x.times)
			}
			r := begin(t, []api.Object{o}, programs...)
			r.picks(t, c, c.Intn(300))
			longest = max(longest, r.turns(t, x.most))
			for i := range programs {
				if !r.done(i) {
					t.Fatalf("thread %d parks: events %v", i, r.events)
				}
			}
			r.over(t)
		}
		t.Logf("%d threads, %d times %v: %d turns at most", x.threads, x.times, x.l, longest)
	}
}
