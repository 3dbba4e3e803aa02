// Package cell is layer 1: cells that threads share (see shared/doc/01-cell.md).
package cell

import (
	"slices"

	"thole/api"
)

// Arena is cells.
type Arena struct {
	most  int
	cells []int64 // places begin at 1: the cell at place p is cells[p-1]
}

// New is an arena that holds at most so many cells: P1.1.
func New(most int) (*Arena, error) {
	if most < 1 || most > api.MaxCells {
		return nil, api.ErrArg
	}
	return &Arena{most: most}, nil
}

// Alloc adds n cells behind all and tells the first one's place: P1.2.
func (a *Arena) Alloc(n int) (int, error) {
	if n < 1 {
		return 0, api.ErrArg
	}
	// Held against the room left, for a sum with n may wrap round.
	if n > a.most-len(a.cells) {
		return 0, api.ErrFull
	}
	first := len(a.cells) + 1
	a.cells = append(a.cells, make([]int64, n)...)
	return first, nil
}

// Load tells what the cell at a place is: P1.3.
func (a *Arena) Load(at int64) (int64, error) {
	if !a.has(at) {
		return 0, api.ErrPlace
	}
	return a.cells[at-1], nil
}

// Store makes the cell at a place v: P1.3.
func (a *Arena) Store(at, v int64) error {
	if !a.has(at) {
		return api.ErrPlace
	}
	a.cells[at-1] = v
	return nil
}

// Swap makes the cell at a place v if it is old, and tells whether it was: P1.3.
func (a *Arena) Swap(at, old, v int64) (bool, error) {
	if !a.has(at) {
		return false, api.ErrPlace
	}
	if a.cells[at-1] != old {
		return false, nil
	}
	a.cells[at-1] = v
	return true, nil
}

// Len is how many cells are there: P1.1.
func (a *Arena) Len() int { return len(a.cells) }

// Clone is an arena that stands alike and goes its own ways: P1.1.
func (a *Arena) Clone() *Arena {
	return &Arena{most: a.most, cells: slices.Clone(a.cells)}
}

// has tells whether a cell is at a place.
func (a *Arena) has(at int64) bool {
	return at >= 1 && at <= int64(len(a.cells))
}
