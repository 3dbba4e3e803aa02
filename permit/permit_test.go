package permit_test

import (
	"math"
	"testing"

	"thole/api"
	"thole/permit"
)

const most = math.MaxInt64

// How a thread may stand, blocked ones beside.
var (
	bare    = api.Park{}
	permits = api.Park{Permit: true}
	flagged = api.Park{Flag: true}
	both    = api.Park{Permit: true, Flag: true}
)

// blocked is how a thread stands that is blocked until a deadline.
func blocked(deadline int64) api.Park {
	return api.Park{Blocked: true, Deadline: deadline}
}

// table is a new table.
func table(t *testing.T, threads int) *permit.Table {
	t.Helper()
	p, err := permit.New(threads)
	if p == nil || err != nil {
		t.Fatalf("New(%d) = %v, %v", threads, p, err)
	}
	return p
}

// done is to be no error.
func done(t *testing.T, err error) {
	t.Helper()
	if err != nil {
		t.Fatal(err)
	}
}

// park is to tell whether the thread is blocked.
func park(t *testing.T, p *permit.Table, i int, deadline int64, want bool) {
	t.Helper()
	if is, err := p.Park(i, deadline); is != want || err != nil {
		t.Fatalf("Park(%d, %d) = %v, %v; want %v, nil", i, deadline, is, err, want)
	}
}

// clears is to tell whether the flag was set.
func clears(t *testing.T, p *permit.Table, i int, want bool) {
	t.Helper()
	if was, err := p.Clear(i); was != want || err != nil {
		t.Fatalf("Clear(%d) = %v, %v; want %v, nil", i, was, err, want)
	}
}

// stands tells a fault if the table's time isn't now, or its threads aren't just these.
func stands(t *testing.T, p *permit.Table, now int64, want ...api.Park) {
	t.Helper()
	if p.Now() != now {
		t.Errorf("Now() = %d, want %d", p.Now(), now)
	}
	for i, w := range want {
		if x, err := p.At(i); x != w || err != nil {
			t.Errorf("At(%d) = %+v, %v; want %+v, nil", i, x, err, w)
		}
	}
	if x, err := p.At(len(want)); x != bare || err != api.ErrNone {
		t.Errorf("At(%d) = %+v, %v; want none, ErrNone", len(want), x, err)
	}
}

// bring brings a thread of a table to stand so; a deadline that it is blocked until is above the table's time.
func bring(t *testing.T, p *permit.Table, i int, x api.Park) {
	t.Helper()
	if x.Permit {
		done(t, p.Unpark(i))
	}
	if x.Flag {
		done(t, p.Interrupt(i))
	}
	if x.Blocked {
		park(t, p, i, x.Deadline, true)
	}
	if is, err := p.At(i); is != x || err != nil {
		t.Fatalf("At(%d) = %+v, %v; want %+v", i, is, err, x)
	}
}

// P3.1
func TestNew(t *testing.T) {
	for n := 1; n <= api.MaxThreads; n++ {
		stands(t, table(t, n), 0, make([]api.Park, n)...)
	}
}

// P3.1
func TestNewOfWrong(t *testing.T) {
	for _, n := range []int{0, -1, -2, -8, api.MaxThreads + 1, 16, 1 << 16, 1<<32 + 1, math.MaxInt, math.MinInt, math.MinInt + 1} {
		if p, err := permit.New(n); p != nil || err != api.ErrArg {
			t.Errorf("New(%d) = %v, %v; want nil, ErrArg", n, p, err)
		}
	}
}

// P3.1: tables that were made alike have nothing of each other.
func TestTwoTables(t *testing.T) {
	a, b := table(t, 2), table(t, 2)
	done(t, a.Unpark(0))
	done(t, a.Interrupt(1))
	done(t, a.Tick(4))
	stands(t, a, 4, permits, flagged)
	stands(t, b, 0, bare, bare)
}

// P3.1: a clone stands alike, and neither follows the other.
func TestClone(t *testing.T) {
	a := table(t, 6)
	done(t, a.Tick(7))
	was := []api.Park{bare, permits, flagged, both, blocked(api.Forever), blocked(9)}
	for i, x := range was {
		bring(t, a, i, x)
	}
	b := a.Clone()
	stands(t, b, 7, was...)
	for i := range was {
		done(t, a.Interrupt(i))
	}
	done(t, a.Tick(1))
	stands(t, a, 8, flagged, both, flagged, both, flagged, flagged)
	stands(t, b, 7, was...)
	clears(t, b, 2, true)
	done(t, b.Unpark(0))
	done(t, b.Unpark(4))
	park(t, b, 1, 20, false)
	done(t, b.Tick(3))
	stands(t, b, 10, permits, bare, bare, both, bare, bare)
	stands(t, a, 8, flagged, both, flagged, both, flagged, flagged)
	c := b.Clone()
	b = nil
	done(t, c.Tick(1))
	stands(t, c, 11, permits, bare, bare, both, bare, bare)
}

// P3.1: what At tells is the table's no more.
func TestWhatAtTellsIsACopy(t *testing.T) {
	p := table(t, 1)
	park(t, p, 0, 5, true)
	x, err := p.At(0)
	done(t, err)
	x.Blocked, x.Permit, x.Deadline = false, true, 1
	stands(t, p, 0, blocked(5))
}

// P3.2: each call, from however a thread may stand, at time 10.
func TestCallsFromAllStands(t *testing.T) {
	type to struct {
		x    api.Park
		is   bool
		code error
	}
	const now, later = 10, 15
	parkAt := func(deadline int64) func(*permit.Table) (bool, error) {
		return func(p *permit.Table) (bool, error) { return p.Park(1, deadline) }
	}
	alone := func(call func(*permit.Table) error) func(*permit.Table) (bool, error) {
		return func(p *permit.Table) (bool, error) { return false, call(p) }
	}
	starts := []api.Park{bare, permits, flagged, both, blocked(api.Forever), blocked(later)}
	good := func(x api.Park) to { return to{x, false, nil} }
	wrong := func(x api.Park) to { return to{x, false, api.ErrArg} }
	// Who is blocked may not park, be the deadline what it may.
	still := []to{wrong(blocked(api.Forever)), wrong(blocked(later))}
	on := append([]to{good(bare), good(bare), good(flagged), good(flagged)}, still...)
	least := append([]to{wrong(bare), wrong(permits), wrong(flagged), wrong(both)}, still...)
	stops := func(deadline int64) []to {
		return append([]to{{blocked(deadline), true, nil}}, on[1:]...)
	}
	for _, c := range []struct {
		name string
		call func(*permit.Table) (bool, error)
		to   []to
	}{
		{"Park(Forever)", parkAt(api.Forever), stops(api.Forever)},
		{"Park(later)", parkAt(later), stops(later)},
		{"Park(next)", parkAt(now + 1), stops(now + 1)},
		{"Park(most)", parkAt(most), stops(most)},
		{"Park(now)", parkAt(now), on},
		{"Park(ahead)", parkAt(now - 1), on},
		{"Park(0)", parkAt(0), on},
		{"Park(-2)", parkAt(-2), least},
		{"Park(least)", parkAt(math.MinInt64), least},
		{"Unpark", alone(func(p *permit.Table) error { return p.Unpark(1) }),
			[]to{good(permits), good(permits), good(both), good(both), good(bare), good(bare)}},
		{"Interrupt", alone(func(p *permit.Table) error { return p.Interrupt(1) }),
			[]to{good(flagged), good(both), good(flagged), good(both), good(flagged), good(flagged)}},
		{"Clear", func(p *permit.Table) (bool, error) { return p.Clear(1) },
			[]to{good(bare), good(permits), {bare, true, nil}, {permits, true, nil}, good(blocked(api.Forever)), good(blocked(later))}},
		{"Wake", alone(func(p *permit.Table) error { return p.Wake(1) }),
			[]to{good(bare), good(permits), good(flagged), good(both), good(bare), good(bare)}},
	} {
		for k, from := range starts {
			// The threads beside it are to stay, however they stand.
			for _, other := range starts {
				p := table(t, 3)
				done(t, p.Tick(now))
				bring(t, p, 0, other)
				bring(t, p, 1, from)
				bring(t, p, 2, other)
				want := c.to[k]
				if is, err := c.call(p); is != want.is || err != want.code {
					t.Errorf("%s from %+v = %v, %v; want %v, %v", c.name, from, is, err, want.is, want.code)
				}
				stands(t, p, now, other, want.x, other)
			}
		}
	}
}

// P3.1 and P3.2: of no thread each call comes to ErrNone, and nothing is done.
func TestNoSuchThread(t *testing.T) {
	for n := 1; n <= api.MaxThreads; n++ {
		p := table(t, n)
		want := make([]api.Park, n)
		park(t, p, 0, 5, true)
		want[0] = blocked(5)
		for _, i := range []int{-1, -2, n, n + 1, 8, 9, 1 << 8, 1 << 32, math.MaxInt, math.MinInt, math.MinInt + 1} {
			// ErrNone goes ahead of ErrArg for the deadline.
			for _, deadline := range []int64{api.Forever, 0, 5, most, -2, math.MinInt64} {
				if is, err := p.Park(i, deadline); is || err != api.ErrNone {
					t.Errorf("Park(%d, %d) of %d = %v, %v; want false, ErrNone", i, deadline, n, is, err)
				}
			}
			if err := p.Unpark(i); err != api.ErrNone {
				t.Errorf("Unpark(%d) of %d = %v; want ErrNone", i, n, err)
			}
			if err := p.Interrupt(i); err != api.ErrNone {
				t.Errorf("Interrupt(%d) of %d = %v; want ErrNone", i, n, err)
			}
			if was, err := p.Clear(i); was || err != api.ErrNone {
				t.Errorf("Clear(%d) of %d = %v, %v; want false, ErrNone", i, n, was, err)
			}
			if err := p.Wake(i); err != api.ErrNone {
				t.Errorf("Wake(%d) of %d = %v; want ErrNone", i, n, err)
			}
			if x, err := p.At(i); x != bare || err != api.ErrNone {
				t.Errorf("At(%d) of %d = %+v, %v; want none, ErrNone", i, n, x, err)
			}
		}
		stands(t, p, 0, want...)
	}
}

// P3.2: the last thread of each table is there, as the first one is.
func TestEachThreadIsThere(t *testing.T) {
	for n := 1; n <= api.MaxThreads; n++ {
		for i := range n {
			p := table(t, n)
			want := make([]api.Park, n)
			park(t, p, i, 3, true)
			want[i] = blocked(3)
			stands(t, p, 0, want...)
			done(t, p.Wake(i))
			done(t, p.Unpark(i))
			want[i] = permits
			stands(t, p, 0, want...)
			park(t, p, i, 3, false)
			done(t, p.Interrupt(i))
			want[i] = flagged
			stands(t, p, 0, want...)
			clears(t, p, i, true)
			want[i] = bare
			stands(t, p, 0, want...)
		}
	}
}

// P3.3
func TestTick(t *testing.T) {
	p := table(t, 8)
	for i, x := range []api.Park{bare, permits, flagged, both, blocked(api.Forever), blocked(5), blocked(6), blocked(most)} {
		bring(t, p, i, x)
	}
	done(t, p.Tick(0))
	stands(t, p, 0, bare, permits, flagged, both, blocked(api.Forever), blocked(5), blocked(6), blocked(most))
	done(t, p.Tick(4))
	stands(t, p, 4, bare, permits, flagged, both, blocked(api.Forever), blocked(5), blocked(6), blocked(most))
	done(t, p.Tick(1))
	stands(t, p, 5, bare, permits, flagged, both, blocked(api.Forever), bare, blocked(6), blocked(most))
	done(t, p.Tick(1<<40))
	stands(t, p, 5+1<<40, bare, permits, flagged, both, blocked(api.Forever), bare, bare, blocked(most))
	done(t, p.Tick(most))
	stands(t, p, most, bare, permits, flagged, both, blocked(api.Forever), bare, bare, bare)
}

// P3.3: all those go on whose deadline is due, wherever they stand in the table.
func TestTickOfMany(t *testing.T) {
	for mask := range 1 << api.MaxThreads {
		p := table(t, api.MaxThreads)
		want := make([]api.Park, api.MaxThreads)
		for i := range want {
			deadline := int64(20 + i)
			if mask>>i&1 == 1 {
				deadline = int64(10 - i)
			} else {
				want[i] = blocked(deadline)
			}
			park(t, p, i, deadline, true)
		}
		done(t, p.Tick(10))
		stands(t, p, 10, want...)
	}
}

// P3.3: with ticks below 0 nothing is done.
func TestTickOfWrong(t *testing.T) {
	for _, now := range []int64{0, 7, most} {
		p := table(t, 2)
		park(t, p, 0, api.Forever, true)
		done(t, p.Unpark(1))
		done(t, p.Tick(now))
		for _, ticks := range []int64{-1, -2, -7, -most, math.MinInt64} {
			if err := p.Tick(ticks); err != api.ErrArg {
				t.Errorf("Tick(%d) = %v; want ErrArg", ticks, err)
			}
			stands(t, p, now, blocked(api.Forever), permits)
		}
	}
}

// P3.3: the time stands still at its greatest; what is due there stays so, and Forever never is.
func TestTimeStandsStill(t *testing.T) {
	p := table(t, 3)
	park(t, p, 0, most, true)
	park(t, p, 1, api.Forever, true)
	done(t, p.Tick(most-1))
	stands(t, p, most-1, blocked(most), blocked(api.Forever), bare)
	done(t, p.Tick(most))
	stands(t, p, most, bare, blocked(api.Forever), bare)
	for _, ticks := range []int64{0, 1, 1 << 40, most} {
		done(t, p.Tick(ticks))
		stands(t, p, most, bare, blocked(api.Forever), bare)
	}
	park(t, p, 0, most, false)
	park(t, p, 2, api.Forever, true)
	stands(t, p, most, bare, blocked(api.Forever), blocked(api.Forever))
}

// P3.4: two unparks are one permit, however many they are.
func TestUnparksAreOnePermit(t *testing.T) {
	for _, n := range []int{1, 2, 3, 9} {
		p := table(t, 1)
		for range n {
			done(t, p.Unpark(0))
		}
		stands(t, p, 0, permits)
		park(t, p, 0, api.Forever, false)
		park(t, p, 0, api.Forever, true)
		// The first one lets it go on, the others are its permit.
		for range n {
			done(t, p.Unpark(0))
		}
		park(t, p, 0, api.Forever, n == 1)
	}
}

// P3.4: who was interrupted goes on however often it parks, till its flag is taken back.
func TestFlagStays(t *testing.T) {
	p := table(t, 1)
	park(t, p, 0, api.Forever, true)
	done(t, p.Interrupt(0))
	for range 3 {
		park(t, p, 0, api.Forever, false)
		park(t, p, 0, 9, false)
		done(t, p.Wake(0))
		done(t, p.Tick(1))
	}
	stands(t, p, 3, flagged)
	clears(t, p, 0, true)
	clears(t, p, 0, false)
	park(t, p, 0, api.Forever, true)
}

// kept is how a thread stands, told by other means than the table's: until is -2 of one that isn't blocked.
type kept struct {
	permits, flags int
	until          int64
}

// park is what the chapter says of it.
func (k *kept) park(now, deadline int64) (bool, error) {
	switch {
	case k.until != -2 || deadline < -1:
		return false, api.ErrArg
	case k.permits > 0:
		k.permits = 0
	case k.flags == 0 && (deadline == -1 || deadline > now):
		k.until = deadline
	}
	return k.until != -2, nil
}

// told is that as the table tells it.
func (k *kept) told() api.Park {
	x := api.Park{Permit: k.permits > 0, Flag: k.flags > 0}
	if k.until != -2 {
		x.Blocked, x.Deadline = true, k.until
	}
	return x
}

// call does one call of a thread's on both sides, and holds the answers against each other.
func (k *kept) call(t *testing.T, p *permit.Table, i, what int, deadline int64) {
	t.Helper()
	switch what {
	case 0, 1:
		want, code := k.park(p.Now(), deadline)
		if is, err := p.Park(i, deadline); is != want || err != code {
			t.Fatalf("Park(%d, %d) = %v, %v; want %v, %v", i, deadline, is, err, want, code)
		}
	case 2:
		done(t, p.Unpark(i))
		if k.until == -2 {
			k.permits++
		}
		k.until = -2
	case 3:
		done(t, p.Interrupt(i))
		k.flags, k.until = k.flags+1, -2
	case 4:
		clears(t, p, i, k.flags > 0)
		k.flags = 0
	case 5:
		done(t, p.Wake(i))
		k.until = -2
	}
}

// P3.4, and the promises ahead of it, over long rows of calls of all threads.
func TestManyCallsInARow(t *testing.T) {
	seed := uint32(1)
	next := func(n int) int {
		seed = seed*1664525 + 1013904223
		return int(seed>>8) % n
	}
	for n := 1; n <= api.MaxThreads; n++ {
		p, l, now, slept := table(t, n), make([]kept, n), int64(0), 0
		for i := range l {
			l[i].until = -2
		}
		for range 4000 {
			i := next(n)
			switch what := next(8); what {
			case 6:
				ticks := int64(next(4))
				done(t, p.Tick(ticks))
				now += ticks
				for j := range l {
					if l[j].until >= 0 && l[j].until <= now {
						l[j].until = -2
					}
				}
			case 7:
				p = p.Clone()
			default:
				l[i].call(t, p, i, what, []int64{-1, -2, now - 1, now, now + 1, now + 2, now + 9}[next(7)])
			}
			want := make([]api.Park, n)
			for j := range l {
				want[j] = l[j].told()
			}
			stands(t, p, now, want...)
			slept += follows(t, p, n)
		}
		if slept < 300 {
			t.Errorf("of %d threads only %d were seen blocked: the row is too short", n, slept)
		}
	}
}

// follows is how many threads are blocked; each of them is to have neither a permit, nor a flag, nor a deadline that is due.
func follows(t *testing.T, p *permit.Table, n int) int {
	t.Helper()
	slept := 0
	for i := range n {
		x, err := p.At(i)
		done(t, err)
		if !x.Blocked {
			if x.Deadline != 0 {
				t.Fatalf("At(%d) = %+v: a deadline of one that isn't blocked", i, x)
			}
			continue
		}
		slept++
		if x.Permit || x.Flag || x.Deadline >= 0 && x.Deadline <= p.Now() {
			t.Fatalf("At(%d) = %+v at %d: blocked", i, x, p.Now())
		}
	}
	return slept
}

// P1: each call ends, at the ends of what an argument may be.
func TestAllArguments(t *testing.T) {
	ends := []int64{math.MinInt64, math.MinInt32, -9, -2, -1, 0, 1, 7, 8, 9, math.MaxInt32, 1 << 32, most - 1, most}
	for _, n := range ends {
		p, err := permit.New(int(n))
		if (p == nil) != (err != nil) {
			t.Errorf("New(%d) = %v, %v", n, p, err)
		}
		if err != nil {
			continue
		}
		for _, i := range ends {
			for _, v := range ends {
				there := i >= 0 && i < n
				_, err := p.Park(int(i), v)
				if there && err != nil && err != api.ErrArg || !there && err != api.ErrNone {
					t.Errorf("Park(%d, %d) of %d: %v", i, v, n, err)
				}
				if err := p.Unpark(int(i)); (err == nil) != there {
					t.Errorf("Unpark(%d) of %d: %v", i, n, err)
				}
				if err := p.Tick(v); (err == nil) != (v >= 0) {
					t.Errorf("Tick(%d): %v", v, err)
				}
				if err := p.Interrupt(int(i)); (err == nil) != there {
					t.Errorf("Interrupt(%d) of %d: %v", i, n, err)
				}
				if was, err := p.Clear(int(i)); was != there || (err == nil) != there {
					t.Errorf("Clear(%d) of %d: %v, %v", i, n, was, err)
				}
				if err := p.Wake(int(i)); (err == nil) != there {
					t.Errorf("Wake(%d) of %d: %v", i, n, err)
				}
			}
		}
		follows(t, p, int(n))
	}
}

// The chapter's example.
func TestExample(t *testing.T) {
	p := table(t, 1)
	done(t, p.Unpark(0))
	done(t, p.Unpark(0))
	park(t, p, 0, api.Forever, false)
	park(t, p, 0, api.Forever, true)
}
