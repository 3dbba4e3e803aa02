package micro

import (
	"thole/api"
	"thole/cell"
	"thole/ins"
	"thole/permit"
)

// step is a step that is on: what it is done with, the frames and marks so far, and how many instructions were done.
type step struct {
	code    []api.Ins
	cells   *cell.Arena
	threads *permit.Table
	self    int
	frames  []api.Frame
	notes   []api.Note
	done    int
}

// run does instructions until the step ends, and tells what came of it, and what the call came to, if it ended.
func (s *step) run() (int, int64) {
next:
	x, ok := s.fetch()
	if !ok || s.done == api.MaxLocal {
		return api.StepTrap, 0
	}
	// It is left to the next step, for others may have their steps ahead of each access.
	if s.done > 0 && ins.Access(x) {
		return api.StepRan, 0
	}
	switch how := s.do(x); how {
	case api.StepRan:
		s.done++
		goto next
	case api.StepDone:
		return how, s.last().R[x.A]
	default:
		return how, 0
	}
}

// fetch is the next instruction, if there is one, and it may be.
func (s *step) fetch() (api.Ins, bool) {
	at := s.last().At
	if at < 0 || at >= len(s.code) || !ins.May(s.code[at]) {
		return api.Ins{}, false
	}
	return s.code[at], true
}

// last is the frame that is on.
func (s *step) last() *api.Frame { return &s.frames[len(s.frames)-1] }

// do does an instruction that may be, and tells what came of it: StepRan, if the step goes on. Where it is StepTrap, nothing was done.
func (s *step) do(x api.Ins) int {
	switch x.Op {
	case api.InJmp, api.InJeq, api.InJne, api.InJlt:
		return s.jump(x)
	case api.InCall:
		return s.enter(x)
	case api.InRet:
		return s.leave()
	}
	how := s.act(x)
	if how != api.StepTrap {
		s.last().At++
	}
	return how
}

// jump goes to the instruction's place, or to the next one.
func (s *step) jump(x api.Ins) int {
	f := s.last()
	if leads(x, &f.R) {
		f.At = int(x.N)
	} else {
		f.At++
	}
	return api.StepRan
}

// leads tells whether a jump goes to its place, as the registers are.
func leads(x api.Ins, r *[api.Regs]int64) bool {
	switch x.Op {
	case api.InJeq:
		return r[x.A] == r[x.B]
	case api.InJne:
		return r[x.A] != r[x.B]
	case api.InJlt:
		return r[x.A] < r[x.B]
	}
	return true
}

// enter enters the routine at the instruction's place.
func (s *step) enter(x api.Ins) int {
	if len(s.frames) == api.MaxDepth {
		return api.StepTrap
	}
	f := s.last()
	f.At++
	s.frames = append(s.frames, api.Frame{At: int(x.N), R: f.R})
	return api.StepRan
}

// leave leaves a routine, for the one that entered it.
func (s *step) leave() int {
	if len(s.frames) == 1 {
		return api.StepTrap
	}
	left := *s.last()
	s.frames = s.frames[:len(s.frames)-1]
	r := &s.last().R
	r[0], r[1] = left.R[0], left.R[1]
	return api.StepRan
}
