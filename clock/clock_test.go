package clock_test

import (
	"math"
	"slices"
	"testing"

	"thole/api"
	"thole/clock"
)

const most = math.MaxInt64

// times are numbers that calls are held against each other at: both ends, and what lies beside 0, Forever and the turns of 32 bits.
var times = []int64{
	math.MinInt64, math.MinInt64 + 1, -1 << 40, math.MinInt32, -3, -2, -1,
	0, 1, 2, 3, 5, 9, math.MaxInt32, 1 << 31, 1 << 32, 1<<32 + 1, api.MaxWait,
	most / 2, most/2 + 1, most - 2, most - 1, most,
}

// sum is what two times come to together, told without a sum that wraps round.
func sum(a, b int64) int64 {
	if s := uint64(a) + uint64(b); s < most {
		return int64(s)
	}
	return most
}

// P2.1
func TestAdd(t *testing.T) {
	for _, c := range []struct{ now, ticks, want int64 }{
		{0, 0, 0},
		{0, 1, 1},
		{1, 0, 1},
		{5, 7, 12},
		{7, 5, 12},
		{1 << 31, 1 << 31, 1 << 32},
		{3, api.MaxWait, api.MaxWait + 3},
		{0, most, most},
		{most, 0, most},
		{1, most - 1, most},
		{most - 1, 1, most},
		{most - 5, 4, most - 1},
		{most - 3, 3, most},
	} {
		if v, err := clock.Add(c.now, c.ticks); v != c.want || err != nil {
			t.Errorf("Add(%d, %d) = %d, %v; want %d, nil", c.now, c.ticks, v, err, c.want)
		}
	}
}

// P2.1: the time stands still at its greatest.
func TestAddStandsStill(t *testing.T) {
	for _, c := range [][2]int64{
		{most, 1}, {1, most}, {most - 1, 2}, {2, most - 1}, {most - 3, 4}, {most - 3, 9},
		{most/2 + 1, most/2 + 1}, {most, api.MaxWait}, {most - 1, most}, {most, most},
	} {
		if v, err := clock.Add(c[0], c[1]); v != most || err != nil {
			t.Errorf("Add(%d, %d) = %d, %v; want %d, nil", c[0], c[1], v, err, int64(most))
		}
	}
}

// P2.1: a number below 0 is no time and no ticks; Forever is none either.
func TestAddOfWrong(t *testing.T) {
	for _, c := range [][2]int64{
		{-1, 0}, {0, -1}, {-1, 1}, {1, -1}, {-1, -1}, {5, -2}, {-2, 5},
		{most, -1}, {-1, most}, {most, -most}, {-most, most},
		{math.MinInt64, 0}, {0, math.MinInt64}, {math.MinInt64, most}, {most, math.MinInt64},
		{math.MinInt64, math.MinInt64}, {api.Forever, 3}, {3, api.Forever},
	} {
		if v, err := clock.Add(c[0], c[1]); v != 0 || err != api.ErrArg {
			t.Errorf("Add(%d, %d) = %d, %v; want 0, ErrArg", c[0], c[1], v, err)
		}
	}
}

// P2.1
func TestDeadline(t *testing.T) {
	for _, c := range []struct{ now, wait, want int64 }{
		{0, 0, 0},
		{5, 0, 5},
		{0, 1, 1},
		{5, 7, 12},
		{9, api.MaxWait, api.MaxWait + 9},
		{most - 1, 1, most},
		{most - 2, 1, most - 1},
		{0, most, most},
		{most, 0, most},
		{most, 1, most},
		{1, most, most},
		{most, most, most},
		{most/2 + 1, most/2 + 1, most},
	} {
		if v, err := clock.Deadline(c.now, c.wait); v != c.want || err != nil {
			t.Errorf("Deadline(%d, %d) = %d, %v; want %d, nil", c.now, c.wait, v, err, c.want)
		}
	}
}

// P2.1: a wait without end has no deadline, whenever it begins.
func TestDeadlineOfForever(t *testing.T) {
	for _, now := range []int64{0, 1, 5, 1 << 32, most - 1, most} {
		if v, err := clock.Deadline(now, api.Forever); v != api.Forever || err != nil {
			t.Errorf("Deadline(%d, Forever) = %d, %v; want Forever, nil", now, v, err)
		}
	}
}

// P2.1: now is asked even where the wait is Forever.
func TestDeadlineOfWrong(t *testing.T) {
	for _, c := range [][2]int64{
		{-1, 0}, {-1, 5}, {-1, api.Forever}, {-2, api.Forever}, {math.MinInt64, api.Forever},
		{math.MinInt64, 0}, {math.MinInt64, most}, {-1, most},
		{0, -2}, {5, -2}, {5, -3}, {most, -2}, {0, math.MinInt64}, {most, math.MinInt64},
		{-1, -2}, {-7, -7}, {math.MinInt64, math.MinInt64},
	} {
		if v, err := clock.Deadline(c[0], c[1]); v != 0 || err != api.ErrArg {
			t.Errorf("Deadline(%d, %d) = %d, %v; want 0, ErrArg", c[0], c[1], v, err)
		}
	}
}

// P2.1, of all pairs of times, and P1 at the ends of what an argument may be.
func TestSumsOfAllPairs(t *testing.T) {
	for _, now := range times {
		for _, n := range times {
			v, err := clock.Add(now, n)
			if now < 0 || n < 0 {
				if v != 0 || err != api.ErrArg {
					t.Errorf("Add(%d, %d) = %d, %v; want 0, ErrArg", now, n, v, err)
				}
				continue
			}
			if v != sum(now, n) || err != nil {
				t.Errorf("Add(%d, %d) = %d, %v; want %d, nil", now, n, v, err, sum(now, n))
			}
			if d, err := clock.Deadline(now, n); d != v || err != nil {
				t.Errorf("Deadline(%d, %d) = %d, %v; want %d, nil", now, n, d, err, v)
			}
		}
	}
}

// P2.2
func TestDue(t *testing.T) {
	for _, c := range []struct {
		now, deadline int64
		want          bool
	}{
		{5, 5, true},
		{6, 5, true},
		{4, 5, false},
		{0, 0, true},
		{1, 0, true},
		{0, 1, false},
		{most, most, true},
		{most - 1, most, false},
		{most, 0, true},
		{most, 1 << 32, true},
		{1, 1 << 32, false},
		{1<<32 + 1, 2, true},
	} {
		if is := clock.Due(c.now, c.deadline); is != c.want {
			t.Errorf("Due(%d, %d) = %v, want %v", c.now, c.deadline, is, c.want)
		}
	}
}

// P2.2: what is below 0 is never due, be it Forever or not; a now below 0 is below each deadline.
func TestDueBelowZero(t *testing.T) {
	for _, now := range times {
		for _, deadline := range []int64{api.Forever, -2, -9, math.MinInt32, -most, math.MinInt64} {
			if clock.Due(now, deadline) {
				t.Errorf("Due(%d, %d) = true, want false", now, deadline)
			}
		}
	}
	for _, now := range []int64{-1, -2, -most, math.MinInt64} {
		for _, deadline := range []int64{0, 1, 5, most} {
			if clock.Due(now, deadline) {
				t.Errorf("Due(%d, %d) = true, want false", now, deadline)
			}
		}
	}
}

// P2.2
func TestFirst(t *testing.T) {
	for _, c := range []struct {
		l    []int64
		want int64
	}{
		{[]int64{0}, 0},
		{[]int64{7}, 7},
		{[]int64{most}, most},
		{[]int64{-1, 7, 3}, 3},
		{[]int64{3, 7, -1}, 3},
		{[]int64{7, -1, 3}, 3},
		{[]int64{3, 3}, 3},
		{[]int64{5, 4, 3, 2, 1}, 1},
		{[]int64{1, 2, 3, 4, 5}, 1},
		{[]int64{-1, 9, 0, 3}, 0},
		{[]int64{0, 9}, 0},
		{[]int64{0, -1, 9}, 0},
		{[]int64{-1, most}, most},
		{[]int64{most, -1}, most},
		{[]int64{-1, most, -1, most - 1, -1}, most - 1},
		{[]int64{-9, 4, math.MinInt64, 6}, 4},
		{[]int64{1 << 32, 1}, 1},
		{[]int64{1<<32 + 1, 1 << 33, 1 << 32}, 1 << 32},
	} {
		if v := clock.First(c.l...); v != c.want {
			t.Errorf("First(%d) = %d, want %d", c.l, v, c.want)
		}
	}
}

// P2.2: what is below 0 counts as none, and isn't told.
func TestFirstOfNone(t *testing.T) {
	for _, l := range [][]int64{
		nil, {}, {-1}, {-2}, {math.MinInt64}, {-1, -1}, {-5, -2, -9}, {math.MinInt64, -1, -most},
	} {
		if v := clock.First(l...); v != api.Forever {
			t.Errorf("First(%d) = %d, want Forever", l, v)
		}
	}
	if v := clock.First(); v != api.Forever {
		t.Errorf("First() = %d, want Forever", v)
	}
}

// P2.2: wherever in a long list the least one stands.
func TestFirstOfMany(t *testing.T) {
	for at := range 200 {
		l := make([]int64, 200)
		for i := range l {
			l[i] = int64(1000 - i)
			if i%3 == 1 {
				l[i] = int64(-i)
			}
		}
		l[at] = 5
		if v := clock.First(l...); v != 5 {
			t.Errorf("First of 200 with 5 at %d = %d, want 5", at, v)
		}
	}
}

// P2.3: the list stays as it is, also in the room behind it.
func TestFirstLeavesTheList(t *testing.T) {
	room := []int64{9, -1, 7, 0, 3, 3, math.MinInt64, most, 5, 1}
	was := slices.Clone(room)
	for n := range len(room) + 1 {
		clock.First(room[:n]...)
		if !slices.Equal(room, was) {
			t.Fatalf("First of the first %d: the list is %d, was %d", n, room, was)
		}
	}
}

// P2.3: nothing is kept: what a call answers hangs on its arguments alone.
func TestNothingIsKept(t *testing.T) {
	l := []int64{4, 6}
	for range 3 {
		l[0] = 2
		if v := clock.First(l...); v != 2 {
			t.Errorf("First(%d) = %d, want 2", l, v)
		}
		l[0] = 8
		if v := clock.First(l...); v != 6 {
			t.Errorf("First(%d) = %d, want 6", l, v)
		}
		if v := clock.First(); v != api.Forever {
			t.Errorf("First() = %d, want Forever", v)
		}
		if v, err := clock.Add(most, most); v != most || err != nil {
			t.Errorf("Add of the greatest = %d, %v", v, err)
		}
		if v, err := clock.Add(1, 2); v != 3 || err != nil {
			t.Errorf("Add(1, 2) = %d, %v; want 3, nil", v, err)
		}
		if v, err := clock.Deadline(0, 2); v != 2 || err != nil {
			t.Errorf("Deadline(0, 2) = %d, %v; want 2, nil", v, err)
		}
		if clock.Due(1, 2) || !clock.Due(2, 2) {
			t.Error("Due hangs on an earlier call")
		}
	}
}

// P2.4
func TestTimeNeverGoesBack(t *testing.T) {
	for _, step := range []int64{0, 1, 1 << 31, api.MaxWait, most / 7, most/2 + 1, most} {
		now := int64(0)
		for range 20 {
			later, err := clock.Add(now, step)
			if err != nil || later < now {
				t.Fatalf("Add(%d, %d) = %d, %v: back", now, step, later, err)
			}
			if step > 0 && later == now && now != most {
				t.Fatalf("Add(%d, %d) stands still", now, step)
			}
			now = later
		}
	}
}

// P2.4
func TestNoWaitIsDueAtOnce(t *testing.T) {
	for _, now := range times {
		if now < 0 {
			continue
		}
		d, err := clock.Deadline(now, 0)
		if err != nil || !clock.Due(now, d) {
			t.Errorf("Deadline(%d, 0) = %d, %v: not due at once", now, d, err)
		}
	}
}

// P2.4: what is due stays so, and a wait is due when it has passed, not ahead of it.
func TestDueStaysSo(t *testing.T) {
	for _, now := range times {
		for _, deadline := range times {
			if !clock.Due(now, deadline) {
				continue
			}
			for _, ticks := range times {
				if later, err := clock.Add(now, ticks); err == nil && !clock.Due(later, deadline) {
					t.Errorf("%d is due at %d, but not at %d", deadline, now, later)
				}
			}
		}
	}
	d, err := clock.Deadline(10, 5)
	if err != nil {
		t.Fatal(err)
	}
	for now := int64(10); now < 20; now++ {
		if is := clock.Due(now, d); is != (now >= 15) {
			t.Errorf("Due(%d, %d) = %v", now, d, is)
		}
	}
}

// P2.4
func TestFirstOfFirsts(t *testing.T) {
	for i := range times {
		for j := i; j <= len(times); j++ {
			for _, mid := range []int{i, (i + j) / 2, j} {
				whole := clock.First(times[i:j]...)
				a, b := clock.First(times[i:mid]...), clock.First(times[mid:j]...)
				if v := clock.First(a, b); v != whole {
					t.Errorf("First(%d, %d) = %d; of the whole %d", a, b, v, whole)
				}
				if v := clock.First(b, a); v != whole {
					t.Errorf("First(%d, %d) = %d; of the whole %d", b, a, v, whole)
				}
			}
		}
	}
}

// The chapter's examples.
func TestExamples(t *testing.T) {
	if v, err := clock.Add(most, 5); v != most || err != nil {
		t.Errorf("Add(2^63 - 1, 5) = %d, %v; want 2^63 - 1, nil", v, err)
	}
	if v := clock.First(-1, 7, 3); v != 3 {
		t.Errorf("First(-1, 7, 3) = %d, want 3", v)
	}
}
