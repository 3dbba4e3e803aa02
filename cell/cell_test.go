package cell_test

import (
	"math"
	"testing"

	"thole/api"
	"thole/cell"
)

// arena is a new arena of which n cells are there.
func arena(t *testing.T, most, n int) *cell.Arena {
	t.Helper()
	a, err := cell.New(most)
	if err != nil {
		t.Fatalf("New(%d): %v", most, err)
	}
	if n > 0 {
		alloc(t, a, n, 1)
	}
	return a
}

// alloc allocates n cells, whose first place is to be want.
func alloc(t *testing.T, a *cell.Arena, n, want int) {
	t.Helper()
	if at, err := a.Alloc(n); at != want || err != nil {
		t.Fatalf("Alloc(%d) = %d, %v; want %d, nil", n, at, err, want)
	}
}

// store stores v where a cell is.
func store(t *testing.T, a *cell.Arena, at, v int64) {
	t.Helper()
	if err := a.Store(at, v); err != nil {
		t.Fatalf("Store(%d, %d): %v", at, v, err)
	}
}

// swap is to come to want where a cell is.
func swap(t *testing.T, a *cell.Arena, at, old, v int64, want bool) {
	t.Helper()
	if is, err := a.Swap(at, old, v); is != want || err != nil {
		t.Fatalf("Swap(%d, %d, %d) = %v, %v; want %v, nil", at, old, v, is, err, want)
	}
}

// holds tells a fault if the arena isn't just these cells.
func holds(t *testing.T, a *cell.Arena, want ...int64) {
	t.Helper()
	if a.Len() != len(want) {
		t.Fatalf("Len() = %d, want %d", a.Len(), len(want))
	}
	for i, w := range want {
		if v, err := a.Load(int64(i + 1)); v != w || err != nil {
			t.Errorf("Load(%d) = %d, %v; want %d, nil", i+1, v, err, w)
		}
	}
	if v, err := a.Load(int64(len(want) + 1)); v != 0 || err != api.ErrPlace {
		t.Errorf("Load(%d) = %d, %v; want 0, ErrPlace", len(want)+1, v, err)
	}
}

// P1.1
func TestNew(t *testing.T) {
	for _, most := range []int{1, 2, 100, api.MaxCells - 1, api.MaxCells} {
		a, err := cell.New(most)
		if a == nil || err != nil {
			t.Errorf("New(%d) = %v, %v; want an arena", most, a, err)
			continue
		}
		holds(t, a)
	}
	for _, most := range []int{0, -1, math.MinInt, api.MaxCells + 1, math.MaxInt} {
		if a, err := cell.New(most); a != nil || err != api.ErrArg {
			t.Errorf("New(%d) = %v, %v; want nil, ErrArg", most, a, err)
		}
	}
}

// P1.1: two arenas of New have nothing to do with one another.
func TestNewStandsAlone(t *testing.T) {
	a := arena(t, 4, 2)
	b := arena(t, 4, 3)
	store(t, a, 1, 5)
	store(t, b, 2, 6)
	holds(t, a, 5, 0)
	holds(t, b, 0, 6, 0)
}

// P1.1
func TestCloneStandsAlike(t *testing.T) {
	holds(t, arena(t, 3, 0).Clone())
	a := arena(t, 4, 3)
	store(t, a, 1, 7)
	store(t, a, 3, -7)
	holds(t, a.Clone(), 7, 0, -7)
	holds(t, a.Clone().Clone(), 7, 0, -7)
}

// P1.1: a clone has as much room as what it was made of, no more and no less.
func TestCloneHasTheSameRoom(t *testing.T) {
	c := arena(t, 4, 3).Clone()
	if at, err := c.Alloc(2); at != 0 || err != api.ErrFull {
		t.Errorf("Alloc(2) = %d, %v; want 0, ErrFull", at, err)
	}
	alloc(t, c, 1, 4)
	holds(t, c, 0, 0, 0, 0)
}

// P1.1
func TestCloneGoesItsOwnWays(t *testing.T) {
	a := arena(t, 8, 3)
	c := a.Clone()
	store(t, a, 1, 11)
	store(t, c, 2, 22)
	swap(t, a, 3, 0, 33, true)
	swap(t, c, 3, 0, 44, true)
	holds(t, a, 11, 0, 33)
	holds(t, c, 0, 22, 44)
	alloc(t, a, 2, 4)
	holds(t, c, 0, 22, 44)
	alloc(t, c, 1, 4)
	store(t, a, 4, 55)
	store(t, c, 4, 66)
	holds(t, a, 11, 0, 33, 55, 0)
	holds(t, c, 0, 22, 44, 66)
}

// P1.1: also when both grow into room that was set aside ahead of the clone.
func TestClonesGrowApart(t *testing.T) {
	a := arena(t, 64, 0)
	for n := range 40 {
		c := a.Clone()
		alloc(t, a, 1, n+1)
		alloc(t, c, 1, n+1)
		store(t, a, int64(n+1), 1)
		store(t, c, int64(n+1), 2)
		if v, err := a.Load(int64(n + 1)); v != 1 || err != nil {
			t.Fatalf("Load(%d) = %d, %v; want 1, nil", n+1, v, err)
		}
		if v, err := c.Load(int64(n + 1)); v != 2 || err != nil {
			t.Fatalf("clone: Load(%d) = %d, %v; want 2, nil", n+1, v, err)
		}
	}
}

// P1.2
func TestAlloc(t *testing.T) {
	a := arena(t, 10, 0)
	alloc(t, a, 1, 1)
	alloc(t, a, 3, 2)
	alloc(t, a, 2, 5)
	holds(t, a, 0, 0, 0, 0, 0, 0)
	alloc(t, a, 4, 7)
	holds(t, a, 0, 0, 0, 0, 0, 0, 0, 0, 0, 0)
}

// P1.2
func TestAllocOfAll(t *testing.T) {
	for _, most := range []int{1, 2, api.MaxCells} {
		a := arena(t, most, most)
		if a.Len() != most {
			t.Errorf("Len() = %d, want %d", a.Len(), most)
		}
		store(t, a, int64(most), 9)
		if v, err := a.Load(int64(most)); v != 9 || err != nil {
			t.Errorf("Load(%d) = %d, %v; want 9, nil", most, v, err)
		}
	}
}

// P1.2: an argument that may not be is told even where there is no room.
func TestAllocOfNone(t *testing.T) {
	for _, there := range []int{0, 2, 3} {
		for _, n := range []int{0, -1, -3, math.MinInt} {
			a := arena(t, 3, there)
			if at, err := a.Alloc(n); at != 0 || err != api.ErrArg {
				t.Errorf("Alloc(%d) = %d, %v; want 0, ErrArg", n, at, err)
			}
			holds(t, a, make([]int64, there)...)
		}
	}
}

// P1.2: where there is no room nothing is done, and what fits is still given.
func TestAllocOfTooMany(t *testing.T) {
	for _, n := range []int{3, 4, 5, api.MaxCells + 1, math.MaxInt - 1, math.MaxInt} {
		a := arena(t, 4, 2)
		store(t, a, 2, 8)
		if at, err := a.Alloc(n); at != 0 || err != api.ErrFull {
			t.Errorf("Alloc(%d) = %d, %v; want 0, ErrFull", n, at, err)
		}
		holds(t, a, 0, 8)
		alloc(t, a, 2, 3)
		holds(t, a, 0, 8, 0, 0)
		if at, err := a.Alloc(1); at != 0 || err != api.ErrFull {
			t.Errorf("Alloc(1) of a full one = %d, %v; want 0, ErrFull", at, err)
		}
	}
}

// P1.3
func TestStoreAndLoad(t *testing.T) {
	a := arena(t, 3, 3)
	for _, v := range []int64{1, -1, 0, math.MaxInt64, math.MinInt64, 1 << 40} {
		store(t, a, 2, v)
		holds(t, a, 0, v, 0)
	}
	store(t, a, 1, 4)
	store(t, a, 3, 6)
	holds(t, a, 4, 1<<40, 6)
}

// P1.3
func TestSwap(t *testing.T) {
	a := arena(t, 3, 3)
	swap(t, a, 2, 0, 7, true)
	holds(t, a, 0, 7, 0)
	swap(t, a, 2, 0, 9, false)
	swap(t, a, 2, 8, 9, false)
	swap(t, a, 2, -7, 9, false)
	// Alike in their lowest 32 bits alone.
	swap(t, a, 2, 7+1<<32, 9, false)
	holds(t, a, 0, 7, 0)
	swap(t, a, 2, 7, 7, true)
	holds(t, a, 0, 7, 0)
	swap(t, a, 2, 7, math.MinInt64, true)
	swap(t, a, 2, math.MaxInt64, 1, false)
	swap(t, a, 2, math.MinInt64, math.MaxInt64, true)
	holds(t, a, 0, math.MaxInt64, 0)
	swap(t, a, 1, 0, -1, true)
	swap(t, a, 3, 0, -3, true)
	holds(t, a, -1, math.MaxInt64, -3)
}

// P1.3, and P1 at the ends of what an argument may be.
func TestNoSuchPlace(t *testing.T) {
	for _, there := range []int{0, 1, 3} {
		a := arena(t, 5, there)
		places := []int64{0, -1, int64(there + 1), 5, 6, -int64(there), 1 + 1<<32, math.MaxInt64, math.MinInt64}
		for _, at := range places {
			if v, err := a.Load(at); v != 0 || err != api.ErrPlace {
				t.Errorf("Load(%d) of %d = %d, %v; want 0, ErrPlace", at, there, v, err)
			}
			if err := a.Store(at, 3); err != api.ErrPlace {
				t.Errorf("Store(%d, 3) of %d = %v; want ErrPlace", at, there, err)
			}
			if is, err := a.Swap(at, 0, 3); is || err != api.ErrPlace {
				t.Errorf("Swap(%d, 0, 3) of %d = %v, %v; want false, ErrPlace", at, there, is, err)
			}
		}
		holds(t, a, make([]int64, there)...)
	}
}

// P1.3: a place becomes one with the cell that is allocated there, not ahead of it.
func TestPlacesComeWithAlloc(t *testing.T) {
	a := arena(t, 4, 1)
	if err := a.Store(2, 5); err != api.ErrPlace {
		t.Errorf("Store(2, 5) = %v; want ErrPlace", err)
	}
	alloc(t, a, 1, 2)
	holds(t, a, 0, 0)
	store(t, a, 2, 5)
	holds(t, a, 0, 5)
}

// P1.4: what an arena tells is held against plain numbers, over a long row of calls.
func TestManyCallsInARow(t *testing.T) {
	const most = 40
	a := arena(t, most, 0)
	var want []int64
	seed := uint32(1)
	next := func(n int) int {
		seed = seed*1664525 + 1013904223
		return int(seed>>8) % n
	}
	for range 3000 {
		at, v := next(most+2), int64(next(5)-2)
		there := at >= 1 && at <= len(want)
		switch next(4) {
		case 0:
			if n := 1 + next(3); next(20) == 0 && n <= most-len(want) {
				alloc(t, a, n, len(want)+1)
				want = append(want, make([]int64, n)...)
			}
		case 1:
			if err := a.Store(int64(at), v); (err == nil) != there {
				t.Fatalf("Store(%d, %d) of %d = %v", at, v, len(want), err)
			}
			if there {
				want[at-1] = v
			}
		case 2:
			if there {
				old := int64(next(5) - 2)
				swap(t, a, int64(at), old, v, want[at-1] == old)
				if want[at-1] == old {
					want[at-1] = v
				}
			}
		case 3:
			a = a.Clone()
		}
		holds(t, a, want...)
	}
	if len(want) < most-3 {
		t.Errorf("only %d cells came to be: the row is too short", len(want))
	}
}

// P1.4
func TestSwapOfWhatWasLoaded(t *testing.T) {
	a := arena(t, 4, 4)
	for _, v := range []int64{0, 1, -1, math.MaxInt64, math.MinInt64} {
		for at := int64(1); at <= 4; at++ {
			store(t, a, at, v)
			is, err := a.Load(at)
			if err != nil {
				t.Fatal(err)
			}
			swap(t, a, at, is, at, true)
		}
		holds(t, a, 1, 2, 3, 4)
	}
}

// The chapter's example.
func TestExample(t *testing.T) {
	a := arena(t, 3, 2)
	swap(t, a, 2, 0, 7, true)
	if v, err := a.Load(2); v != 7 || err != nil {
		t.Errorf("Load(2) = %d, %v; want 7, nil", v, err)
	}
	if at, err := a.Alloc(2); at != 0 || err != api.ErrFull {
		t.Errorf("Alloc(2) = %d, %v; want 0, ErrFull", at, err)
	}
}
