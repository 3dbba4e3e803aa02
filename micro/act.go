package micro

import "thole/api"

// act does an instruction behind which the next one is on, and tells what came of it, as do does.
func (s *step) act(x api.Ins) int {
	r := &s.last().R
	switch x.Op {
	case api.InLd, api.InSt, api.InCas:
		return ranUnless(s.access(x))
	case api.InPark:
		return s.park(r[x.A])
	case api.InUnpark:
		return ranUnless(s.threads.Unpark(int(r[x.A])))
	case api.InSetint:
		return ranUnless(s.threads.Interrupt(s.self))
	case api.InMark:
		s.notes = append(s.notes, api.Note{Kind: int(x.N), Value: r[x.A]})
	case api.InDone:
		return api.StepDone
	default:
		r[x.A] = s.value(x)
	}
	return api.StepRan
}

// ranUnless is what came of an instruction that traps if a layer below tells an error.
func ranUnless(err error) int {
	if err != nil {
		return api.StepTrap
	}
	return api.StepRan
}

// access reads or writes the instruction's cell.
func (s *step) access(x api.Ins) error {
	r := &s.last().R
	at := r[x.B] + x.N
	switch x.Op {
	case api.InLd:
		v, err := s.cells.Load(at)
		if err == nil {
			r[x.A] = v
		}
		return err
	case api.InSt:
		return s.cells.Store(at, r[x.A])
	}
	is, err := s.cells.Swap(at, r[x.A], r[x.A+1])
	if err == nil {
		r[x.A+2] = bit(is)
	}
	return err
}

// park parks the thread. Who isn't blocked by that goes on within the step.
func (s *step) park(deadline int64) int {
	blocked, err := s.threads.Park(s.self, deadline)
	if err == nil && blocked {
		return api.StepBlocked
	}
	return ranUnless(err)
}

// value is what register A becomes by an instruction that does nothing else to registers.
func (s *step) value(x api.Ins) int64 {
	r := &s.last().R
	switch x.Op {
	case api.InSet:
		return x.N
	case api.InMov:
		return r[x.B]
	case api.InAdd:
		return r[x.B] + r[x.C]
	case api.InAddi:
		return r[x.B] + x.N
	case api.InAlloc:
		return s.alloc(x.N)
	case api.InSelf:
		return int64(s.self)
	case api.InNow:
		return s.threads.Now()
	case api.InIntr:
		return s.clear()
	}
	return 0
}

// alloc is the place of so many new cells, or 0, where there can be none.
func (s *step) alloc(n int64) int64 {
	at, err := s.cells.Alloc(int(n))
	if err != nil {
		return 0
	}
	return int64(at)
}

// clear takes the thread's flag back, and is 1 if it was set.
func (s *step) clear() int64 {
	was, err := s.threads.Clear(s.self)
	return bit(err == nil && was)
}

// bit is 1 of what is so, else 0.
func bit(is bool) int64 {
	if is {
		return 1
	}
	return 0
}
