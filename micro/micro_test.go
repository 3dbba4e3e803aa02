package micro_test

import (
	"math"
	"reflect"
	"slices"
	"testing"

	"thole/api"
	"thole/asm"
	"thole/cell"
	"thole/ins"
	"thole/micro"
	"thole/permit"
)

const (
	most  = math.MaxInt64
	least = math.MinInt64
)

// world is what steps are done with: code, cells, threads, and the thread whose steps they are.
type world struct {
	t    *testing.T
	code []api.Ins
	a    *cell.Arena
	p    *permit.Table
	i    int
}

// build is a world of this text, of cells that hold these numbers, with room for 4 more, and of 3 threads; thread 1's steps are done.
func build(t *testing.T, text string, cells ...int64) *world {
	t.Helper()
	code, _, err := asm.Assemble(text)
	if err != nil {
		t.Fatalf("Assemble(%q): %v", text, err)
	}
	return of(t, code, cells...)
}

// of is one of this code.
func of(t *testing.T, code []api.Ins, cells ...int64) *world {
	t.Helper()
	a, err := cell.New(len(cells) + 4)
	if err != nil {
		t.Fatal(err)
	}
	if len(cells) > 0 {
		if _, err := a.Alloc(len(cells)); err != nil {
			t.Fatal(err)
		}
	}
	for k, v := range cells {
		done(t, a.Store(int64(k+1), v))
	}
	p, err := permit.New(3)
	if err != nil {
		t.Fatal(err)
	}
	return &world{t: t, code: code, a: a, p: p, i: 1}
}

// done is to be no error.
func done(t *testing.T, err error) {
	t.Helper()
	if err != nil {
		t.Fatal(err)
	}
}

// regs are registers of which the first ones are these.
func regs(l ...int64) [api.Regs]int64 {
	r := [api.Regs]int64{}
	copy(r[:], l)
	return r
}

// numbered are registers that differ from each other.
func numbered() [api.Regs]int64 {
	r := [api.Regs]int64{}
	for k := range r {
		r[k] = int64(1000 + 7*k)
	}
	return r
}

// at is one frame, at this place, of these registers.
func at(place int, r [api.Regs]int64) []api.Frame { return []api.Frame{{At: place, R: r}} }

// result is all that a step comes to.
type result struct {
	l     []api.Frame
	notes []api.Note
	how   int
	value int64
}

// step does a step, which is to be no error.
func (w *world) step(l []api.Frame) result {
	w.t.Helper()
	m, notes, how, value, err := micro.Step(w.code, w.a, w.p, w.i, l)
	if err != nil {
		w.t.Fatalf("Step at %v: %v", l, err)
	}
	return result{m, notes, how, value}
}

// comes tells a fault if a step doesn't come to this.
func (w *world) comes(l []api.Frame, want result) []api.Frame {
	w.t.Helper()
	got := w.step(l)
	if !slices.Equal(got.l, want.l) || !slices.Equal(got.notes, want.notes) || got.how != want.how || got.value != want.value {
		w.t.Errorf("Step of %v at %v =\n%v; want\n%v", w.code, l, got, want)
	}
	return got.l
}

// traps tells a fault if a step doesn't trap, with these frames and marks.
func (w *world) traps(l, behind []api.Frame, notes ...api.Note) {
	w.t.Helper()
	w.comes(l, result{l: behind, notes: notes, how: api.StepTrap})
}

// refused tells a fault if a step isn't ErrArg, and nothing else.
func (w *world) refused(l []api.Frame) {
	w.t.Helper()
	m, notes, how, value, err := micro.Step(w.code, w.a, w.p, w.i, l)
	if m != nil || notes != nil || how != 0 || value != 0 || err != api.ErrArg {
		w.t.Errorf("Step of %d at %v = %v, %v, %d, %d, %v; want ErrArg alone", w.i, l, m, notes, how, value, err)
	}
}

// holds tells a fault if the cells aren't just these.
func (w *world) holds(cells ...int64) {
	w.t.Helper()
	if got := values(w.a); !slices.Equal(got, cells) {
		w.t.Errorf("the cells are %v; want %v", got, cells)
	}
}

// values are what all cells are.
func values(a *cell.Arena) []int64 {
	l := []int64{}
	for k := range a.Len() {
		v, err := a.Load(int64(k + 1))
		if err != nil {
			return nil
		}
		l = append(l, v)
	}
	return l
}

// stands tells a fault if a thread doesn't stand so.
func (w *world) stands(i int, want api.Park) {
	w.t.Helper()
	if x, err := w.p.At(i); x != want || err != nil {
		w.t.Errorf("thread %d stands as %+v, %v; want %+v", i, x, err, want)
	}
}

// The chapter's example.
func TestExample(t *testing.T) {
	w := build(t, "set r0 5\ndone r0")
	w.comes(micro.Start(0), result{l: at(2, regs(5)), how: api.StepDone, value: 5})
}

// P9.1
func TestStart(t *testing.T) {
	all := numbered()
	for _, place := range []int{0, 1, 7, api.MaxCode, -1, math.MaxInt, math.MinInt} {
		for n := range api.Regs + 1 {
			if l := micro.Start(place, all[:n]...); !slices.Equal(l, at(place, regs(all[:n]...))) {
				t.Errorf("Start(%d, %v) = %v", place, all[:n], l)
			}
		}
		if l := micro.Start(place); !slices.Equal(l, at(place, regs())) {
			t.Errorf("Start(%d) = %v", place, l)
		}
	}
	for _, c := range [][]int64{{most}, {least, -1}, {0, 0, 5}, nil, {}} {
		if l := micro.Start(3, c...); !slices.Equal(l, at(3, regs(c...))) {
			t.Errorf("Start(3, %v) = %v", c, l)
		}
	}
}

// P9.1: at most 16 of them count.
func TestStartOfMany(t *testing.T) {
	all := numbered()
	for _, more := range []int{1, 2, 16, 100000} {
		l := slices.Concat(all[:], slices.Repeat([]int64{-5}, more))
		if got := micro.Start(2, l...); !slices.Equal(got, at(2, all)) {
			t.Errorf("Start of %d registers = %v", len(l), got)
		}
	}
}

// P9.1 and P9.3: what is handed in stays as it is, and what is told is new memory.
func TestStartIsNewMemory(t *testing.T) {
	l := []int64{1, 2, 3}
	a, b := micro.Start(4, l...), micro.Start(4, l...)
	a[0].At, a[0].R[0] = 9, 9
	l[1] = 9
	if !slices.Equal(b, at(4, regs(1, 2, 3))) || !slices.Equal(l, []int64{1, 9, 3}) {
		t.Errorf("Start: %v, and its registers %v", b, l)
	}
}

// P9.2: what instructions without an access do to registers, each with a done of r9 behind it.
func TestRegisters(t *testing.T) {
	for _, c := range []struct {
		line string
		at   int
		v    int64
	}{
		{"set r3 -25", 3, -25}, {"set r0 0", 0, 0}, {"set r15 999999999999999999", 15, 999999999999999999},
		{"mov r2 r5", 2, 1035}, {"mov r15 r0", 15, 1000}, {"mov r4 r4", 4, 1028},
		{"add r4 r5 r6", 4, 2077}, {"add r5 r5 r5", 5, 2070}, {"add r0 r15 r1", 0, 2112},
		{"addi r7 r8 9", 7, 1065}, {"addi r7 r8 -2000", 7, -944}, {"addi r6 r6 1", 6, 1043}, {"addi r0 r1 0", 0, 1007},
		{"alloc r2 1", 2, 3}, {"alloc r15 4", 15, 3}, {"self r3", 3, 1}, {"now r5", 5, 0}, {"intr r6", 6, 0},
	} {
		w := build(t, c.line+"\ndone r9", 11, 12)
		r := numbered()
		r[c.at] = c.v
		w.comes(at(0, numbered()), result{l: at(2, r), how: api.StepDone, value: 1063})
	}
}

// P9.2: sums are of 64 bits, and wrap round.
func TestSumsWrapRound(t *testing.T) {
	for _, c := range []struct {
		line    string
		b, c, v int64
	}{
		{"add r0 r1 r2", most, 1, least}, {"add r0 r1 r2", least, -1, most}, {"add r0 r1 r2", most, most, -2}, {"add r0 r1 r2", least, least, 0}, {"add r0 r1 r2", most, least, -1},
		{"addi r0 r1 1", most, 0, least}, {"addi r0 r1 -1", least, 0, most}, {"addi r0 r1 999999999999999999", most, 0, least + 999999999999999998}, {"addi r0 r1 -3", 1 << 40, 0, 1<<40 - 3},
	} {
		w := build(t, c.line+"\ndone r0")
		w.comes(at(0, regs(7, c.b, c.c)), result{l: at(2, regs(c.v, c.b, c.c)), how: api.StepDone, value: c.v})
	}
}

// P9.2: ld, at the cell at B and N together.
func TestLoad(t *testing.T) {
	for _, c := range []struct {
		line string
		b, v int64
	}{
		{"ld r3 r1 0", 1, 11}, {"ld r3 r1 0", 4, -14}, {"ld r3 r1 2", 1, 13}, {"ld r3 r1 -3", 5, 12}, {"ld r3 r1 4", 0, -14}, {"ld r3 r1 9", -8, 11},
		{"ld r3 r1 -999999999999999999", 1000000000000000001, 12},
	} {
		w := build(t, c.line+"\ndone r3", 11, 12, 13, -14)
		w.comes(at(0, regs(5, c.b, 6, 7)), result{l: at(2, regs(5, c.b, 6, c.v)), how: api.StepDone, value: c.v})
		w.holds(11, 12, 13, -14)
	}
	w := build(t, "ld r1 r1 1\ndone r1", 11, 12)
	w.comes(at(0, regs(0, 1)), result{l: at(2, regs(0, 12)), how: api.StepDone, value: 12})
}

// P9.2: st, likewise.
func TestStore(t *testing.T) {
	for _, c := range []struct {
		line    string
		a, b    int64
		at, was int
	}{
		{"st r2 r1 0", 99, 1, 0, 11}, {"st r2 r1 0", least, 3, 2, 13}, {"st r2 r1 2", -1, 1, 2, 13}, {"st r2 r1 -5", most, 7, 1, 12}, {"st r2 r1 3", 0, 0, 2, 13},
	} {
		w := build(t, c.line+"\ndone r3", 11, 12, 13)
		w.comes(at(0, regs(5, c.b, c.a, 8)), result{l: at(2, regs(5, c.b, c.a, 8)), how: api.StepDone, value: 8})
		want := []int64{11, 12, 13}
		want[c.at] = c.a
		w.holds(want...)
	}
	w := build(t, "st r1 r1 0\ndone r1", 11, 12)
	w.comes(at(0, regs(0, 2)), result{l: at(2, regs(0, 2)), how: api.StepDone, value: 2})
	w.holds(11, 2)
}

// P9.2: cas, of the registers at A and the two behind it.
func TestCas(t *testing.T) {
	for _, c := range []struct {
		line       string
		ahead      [api.Regs]int64
		is         int
		v          int64
		cells      []int64
		valueOfAt2 int64
	}{
		{"cas r4 r1 0", regs(0, 2, 0, 0, 12, 99, 7), 6, 1, []int64{11, 99, 13}, 99},
		{"cas r4 r1 0", regs(0, 2, 0, 0, 13, 99, 7), 6, 0, []int64{11, 12, 13}, 12},
		{"cas r4 r1 1", regs(0, 2, 0, 0, 13, least, 7), 6, 1, []int64{11, 12, least}, 12},
		{"cas r4 r1 -1", regs(0, 3, 0, 0, 12, 12, 7), 6, 1, []int64{11, 12, 13}, 12},
		{"cas r4 r1 0", regs(0, 3, 0, 0, 12, 99, 1), 6, 0, []int64{11, 12, 13}, 12},
		{"cas r0 r2 0", regs(11, 50, 1), 2, 1, []int64{50, 12, 13}, 12},
		{"cas r0 r2 0", regs(12, 50, 1), 2, 0, []int64{11, 12, 13}, 12},
		{"cas r0 r1 0", regs(12, 2, 1), 2, 1, []int64{11, 2, 13}, 2},
		{"cas r2 r2 9", regs(0, 0, -7, 4, 5), 4, 0, []int64{11, 12, 13}, 12},
		{"cas r2 r2 11", regs(0, 0, -10, 4, 5), 4, 0, []int64{11, 12, 13}, 12},
	} {
		w := build(t, c.line+"\ndone r15", 11, 12, 13)
		r := c.ahead
		r[15] = 77
		behind := r
		behind[c.is] = c.v
		w.comes(at(0, r), result{l: at(2, behind), how: api.StepDone, value: 77})
		w.holds(c.cells...)
		if v, err := w.a.Load(2); v != c.valueOfAt2 || err != nil {
			t.Errorf("%s: cell 2 is %d, %v; want %d", c.line, v, err, c.valueOfAt2)
		}
	}
	w := build(t, "cas r13 r0 0\ndone r15", 5)
	r := regs(1)
	r[13], r[14], r[15] = 5, 6, 7
	behind := r
	behind[15] = 1
	w.comes(at(0, r), result{l: at(2, behind), how: api.StepDone, value: 1})
	w.holds(6)
}

// P9.2: jumps go to their place, or on to the next one; what is below is so with a sign.
func TestJumps(t *testing.T) {
	for _, c := range []struct {
		line string
		a, b int64
		goes bool
	}{
		{"jmp x", 1, 2, true}, {"jmp x", 3, 3, true},
		{"jeq r1 r2 x", 4, 4, true}, {"jeq r1 r2 x", 4, 5, false}, {"jeq r1 r2 x", most, least, false}, {"jeq r1 r1 x", 4, 5, true}, {"jeq r1 r2 x", 1 << 32, 0, false},
		{"jne r1 r2 x", 4, 4, false}, {"jne r1 r2 x", 4, 5, true}, {"jne r1 r2 x", -1, 1, true}, {"jne r2 r2 x", 4, 5, false}, {"jne r1 r2 x", 1 << 32, 0, true},
		{"jlt r1 r2 x", 4, 5, true}, {"jlt r1 r2 x", 5, 4, false}, {"jlt r1 r2 x", 4, 4, false}, {"jlt r1 r2 x", -1, 0, true}, {"jlt r1 r2 x", 0, -1, false}, {"jlt r1 r2 x", least, most, true}, {"jlt r1 r2 x", most, least, false}, {"jlt r2 r1 x", 5, 4, true},
	} {
		w := build(t, "done r0\n"+c.line+"\ndone r3\nret\nx:\ndone r4")
		want := result{l: at(3, regs(0, c.a, c.b, 30, 40)), how: api.StepDone, value: 30}
		if c.goes {
			want.l[0].At, want.value = 5, 40
		}
		w.comes(at(1, regs(0, c.a, c.b, 30, 40)), want)
		// Back to the first one, too.
		w.code[1].N = 0
		if want.value = 30; c.goes {
			want.l[0].At, want.value = 1, 0
		}
		w.comes(at(1, regs(0, c.a, c.b, 30, 40)), want)
	}
}

// P9.2: a call has a frame more, its registers as they are here; a ret gives registers 0 and 1 to the frame ahead, and no other ones.
func TestCallAndRet(t *testing.T) {
	r := numbered()
	w := build(t, "call f\ndone r0\nf:\nmark 1 r15\nset r0 5\nset r1 6\nset r2 7\nset r15 8\nld r3 r0 -4\nret\n", 50)
	behind := r
	behind[0], behind[1], behind[2], behind[15] = 5, 6, 7, 8
	l := w.comes(at(0, r), result{l: []api.Frame{{At: 1, R: r}, {At: 7, R: behind}}, notes: []api.Note{{Kind: 1, Value: 1105}}, how: api.StepRan})
	end := r
	end[0], end[1] = 5, 6
	w.comes(l, result{l: at(2, end), how: api.StepDone, value: 5})
	// Frames that are further ahead stay as they are.
	first := api.Frame{At: -3, R: regs(1, 2, 3)}
	w = build(t, "ret\ndone r1")
	w.comes([]api.Frame{first, {At: 1, R: regs(4, 5, 6)}, {At: 0, R: regs(7, 8, 9)}}, result{l: []api.Frame{first, {At: 2, R: regs(7, 8, 6)}}, how: api.StepDone, value: 8})
	// A done in a routine ends the call, with all frames as they are.
	w = build(t, "call f\nret\nf:\ndone r2")
	w.comes(at(0, regs(1, 2, 3)), result{l: []api.Frame{{At: 1, R: regs(1, 2, 3)}, {At: 3, R: regs(1, 2, 3)}}, how: api.StepDone, value: 3})
}

// P9.2: 16 frames may be, a call in as many is a trap; so is a ret of the only one.
func TestDepth(t *testing.T) {
	frames := func(n int) []api.Frame {
		l := []api.Frame{}
		for k := range n {
			l = append(l, api.Frame{At: 0, R: regs(int64(k), 50, int64(100+k))})
		}
		return l
	}
	for n := 1; n <= 16; n++ {
		w := build(t, "call f\nret\nf:\ndone r2")
		l := frames(n)
		behind := frames(n)
		if n == 16 {
			w.traps(l, behind)
			continue
		}
		behind[n-1].At = 1
		behind = append(behind, api.Frame{At: 3, R: behind[n-1].R})
		w.comes(l, result{l: behind, how: api.StepDone, value: int64(99 + n)})
	}
	for n := 1; n <= 16; n++ {
		w := build(t, "ret\ndone r2")
		l := frames(n)
		if n == 1 {
			w.traps(l, frames(1))
			continue
		}
		l[n-2].At = 1
		behind := slices.Clone(l[:n-1])
		behind[n-2].At = 2
		behind[n-2].R[0], behind[n-2].R[1] = int64(n-1), 50
		w.comes(l, result{l: behind, how: api.StepDone, value: int64(98 + n)})
	}
	w := build(t, "addi r0 r0 1\ncall f\nf:\naddi r0 r0 1\ncall f")
	got := w.step(micro.Start(0))
	if got.how != api.StepTrap || len(got.l) != 16 || got.l[15].At != 3 || got.l[15].R[0] != 16 || got.l[14].At != 4 || got.l[0].At != 2 || got.l[0].R[0] != 1 {
		t.Errorf("a routine that enters itself without an end: %v", got)
	}
}

// P9.2: a step ends ahead of an access, but for its first instruction; of no other one.
func TestAccessIsFirst(t *testing.T) {
	for _, line := range []string{"ld r3 r1 0", "st r3 r1 0", "cas r3 r1 0"} {
		for _, first := range []string{"set r9 0", "mov r9 r10", "add r9 r10 r11", "addi r9 r10 0", "jmp x", "jeq r0 r0 x", "jne r0 r0 x", "jlt r0 r0 x", "unpark r1", "alloc r9 1", "self r9", "now r9", "intr r9", "setint", "mark 0 r9", "ld r9 r1 0", "st r9 r1 0", "cas r9 r1 0"} {
			w := build(t, first+"\nx:\n"+line+"\n"+line+"\ndone r2", 11)
			got := w.step(at(0, regs(0, 1)))
			if got.how != api.StepRan || got.value != 0 || len(got.l) != 1 || got.l[0].At != 1 {
				t.Errorf("%s; %s: %v", first, line, got)
			}
			// It is done by the next step, and the same one behind it by the one behind that.
			if got = w.step(got.l); got.how != api.StepRan || got.l[0].At != 2 {
				t.Errorf("%s, behind %s: %v", line, first, got)
			}
			if got = w.step(got.l); got.how != api.StepDone || got.l[0].At != 4 {
				t.Errorf("%s and done, behind %s: %v", line, first, got)
			}
		}
		w := build(t, "call f\nf:\n"+line+"\nret", 11)
		l := w.comes(at(0, regs(0, 1)), result{l: []api.Frame{{At: 1, R: regs(0, 1)}, {At: 1, R: regs(0, 1)}}, how: api.StepRan})
		if got := w.step(l); got.how != api.StepRan || len(got.l) != 1 || got.l[0].At != 1 {
			t.Errorf("%s of a routine, and the one behind: %v", line, got)
		}
	}
	// Whether there is its cell isn't asked ahead of it.
	w := build(t, "set r1 9\nld r2 r1 0", 11)
	l := w.comes(micro.Start(0), result{l: at(1, regs(0, 9)), how: api.StepRan})
	w.traps(l, at(1, regs(0, 9)))
}

// P9.2: what is no access doesn't end a step.
func TestOthersGoOn(t *testing.T) {
	w := build(t, "set r1 2\nmov r2 r1\nadd r3 r1 r2\naddi r4 r3 1\njmp a\na:\njeq r0 r1 a\njne r1 r1 a\njlt r1 r0 a\ncall b\nunpark r1\nalloc r5 1\nself r6\nnow r7\nintr r8\nsetint\nmark 3 r4\nset r9 -1\npark r9\ndone r4\nb:\nret", 8)
	r := regs(0, 2, 2, 4, 5, 2, 1, 0, 0, -1)
	w.comes(micro.Start(0), result{l: at(19, r), notes: []api.Note{{Kind: 3, Value: 5}}, how: api.StepDone, value: 5})
	w.stands(1, api.Park{Flag: true})
	w.stands(2, api.Park{Permit: true})
	w.holds(8, 0)
}

// P9.2: a park that blocks ends the step; the thread goes on behind it, when it was woken.
func TestParkBlocks(t *testing.T) {
	wakes := []func(w *world) error{
		func(w *world) error { return w.p.Wake(1) },
		func(w *world) error { return w.p.Unpark(1) },
		func(w *world) error { return w.p.Interrupt(1) },
		func(w *world) error { return w.p.Tick(9) },
	}
	for k, wake := range wakes {
		for _, deadline := range []int64{api.Forever, 1, 9, 10, most} {
			w := build(t, "mark 5 r2\npark r1\nmark 6 r1\ndone r2")
			r := regs(0, deadline, 7)
			l := w.comes(at(0, r), result{l: at(2, r), notes: []api.Note{{Kind: 5, Value: 7}}, how: api.StepBlocked})
			w.stands(1, api.Park{Blocked: true, Deadline: deadline})
			w.stands(0, api.Park{})
			w.refused(l)
			done(t, wake(w))
			if k == 3 && (deadline < 0 || deadline > 9) {
				w.refused(l)
				continue
			}
			w.stands(1, api.Park{Flag: k == 2})
			w.comes(l, result{l: at(4, r), notes: []api.Note{{Kind: 6, Value: deadline}}, how: api.StepDone, value: 7})
		}
	}
	// In a routine, and behind an access.
	w := build(t, "call f\ndone r1\nf:\nld r1 r2 0\npark r1\nset r0 3\nret", -1)
	l := w.comes(at(0, regs(0, 0, 1)), result{l: []api.Frame{{At: 1, R: regs(0, 0, 1)}, {At: 2, R: regs(0, 0, 1)}}, how: api.StepRan})
	l = w.comes(l, result{l: []api.Frame{{At: 1, R: regs(0, 0, 1)}, {At: 4, R: regs(0, -1, 1)}}, how: api.StepBlocked})
	done(t, w.p.Unpark(1))
	w.comes(l, result{l: at(2, regs(3, -1, 1)), how: api.StepDone, value: -1})
}

// P9.2: who has a permit, was interrupted, or whose deadline is due doesn't park: the step goes on.
func TestParkGoesOn(t *testing.T) {
	for _, c := range []struct {
		ahead    func(w *world) error
		deadline int64
		behind   api.Park
	}{
		{func(w *world) error { return w.p.Unpark(1) }, api.Forever, api.Park{}},
		{func(w *world) error { return w.p.Unpark(1) }, 3, api.Park{}},
		{func(w *world) error { return w.p.Interrupt(1) }, api.Forever, api.Park{Flag: true}},
		{func(w *world) error { return w.p.Tick(5) }, 5, api.Park{}},
		{func(w *world) error { return w.p.Tick(5) }, 0, api.Park{}},
		{func(w *world) error { return nil }, 0, api.Park{}},
	} {
		w := build(t, "park r1\nmark 6 r1\ndone r2")
		done(t, c.ahead(w))
		w.comes(at(0, regs(0, c.deadline, 7)), result{l: at(3, regs(0, c.deadline, 7)), notes: []api.Note{{Kind: 6, Value: c.deadline}}, how: api.StepDone, value: 7})
		w.stands(1, c.behind)
	}
	// One permit lets it go on once.
	w := build(t, "self r2\nunpark r2\nunpark r2\npark r1\npark r1\ndone r1")
	w.comes(at(0, regs(0, -1)), result{l: at(5, regs(0, -1, 1)), how: api.StepBlocked})
	// An access behind it ends the step.
	w = build(t, "park r1\nld r2 r0 1\ndone r2", 8)
	l := w.comes(micro.Start(0), result{l: at(1, regs()), how: api.StepRan})
	w.comes(l, result{l: at(3, regs(0, 0, 8)), how: api.StepDone, value: 8})
}

// P9.2: a park of a time below Forever is a trap, with a permit, too, and it uses none up.
func TestParkBelowForever(t *testing.T) {
	for _, deadline := range []int64{-2, -3, least, -1 << 32} {
		for _, ahead := range []api.Park{{}, {Permit: true}, {Flag: true}, {Permit: true, Flag: true}} {
			w := build(t, "mark 4 r1\npark r1\ndone r0")
			if ahead.Flag {
				done(t, w.p.Interrupt(1))
			}
			if ahead.Permit {
				done(t, w.p.Unpark(1))
			}
			r := regs(9, deadline)
			w.traps(at(0, r), at(1, r), api.Note{Kind: 4, Value: deadline})
			w.stands(1, ahead)
		}
	}
}

// P9.2: unpark, of one that is blocked, of one that isn't, of itself, and of none.
func TestUnpark(t *testing.T) {
	for i := range int64(3) {
		w := build(t, "unpark r1\ndone r0")
		if _, err := w.p.Park(2, api.Forever); err != nil {
			t.Fatal(err)
		}
		w.comes(at(0, regs(9, i)), result{l: at(2, regs(9, i)), how: api.StepDone, value: 9})
		for k := range 3 {
			want := api.Park{Permit: k == int(i) && k != 2, Blocked: k == 2 && i != 2}
			if want.Blocked {
				want.Deadline = api.Forever
			}
			w.stands(k, want)
		}
	}
	for _, i := range []int64{-1, 3, 4, 8, least, most, 1 << 31, -1 << 40} {
		w := build(t, "mark 2 r1\nunpark r1\ndone r0")
		w.traps(at(0, regs(9, i)), at(1, regs(9, i)), api.Note{Kind: 2, Value: i})
		for k := range 3 {
			w.stands(k, api.Park{})
		}
	}
}

// P9.2: alloc, as long as there is room, and 0 behind that or of what can't be.
func TestAlloc(t *testing.T) {
	w := build(t, "alloc r1 2\nalloc r2 3\nalloc r3 1\nalloc r4 1\nalloc r5 1\ndone r0", 7, 8)
	w.comes(at(0, regs(9, 9, 9, 9, 9, 9)), result{l: at(6, regs(9, 3, 0, 5, 6, 0)), how: api.StepDone, value: 9})
	w.holds(7, 8, 0, 0, 0, 0)
	for _, n := range []int64{0, -1, 5, 4097, 1 << 32, 1<<32 + 1, 999999999999999999, -999999999999999999} {
		w := of(t, []api.Ins{{Op: api.InAlloc, A: 1, N: n}, {Op: api.InDone}}, 7)
		w.comes(at(0, regs(9, 9)), result{l: at(2, regs(9, 0)), how: api.StepDone, value: 9})
		w.holds(7)
	}
}

// P9.2: self, now, intr and setint.
func TestSelfNowAndFlag(t *testing.T) {
	for i := range 3 {
		w := build(t, "self r1\nnow r2\nintr r3\nsetint\nintr r4\nintr r5\nsetint\nsetint\ndone r2")
		w.i = i
		done(t, w.p.Tick(1<<40))
		done(t, w.p.Interrupt((i+1)%3))
		w.comes(micro.Start(0), result{l: at(9, regs(0, int64(i), 1<<40, 0, 1, 0)), how: api.StepDone, value: 1 << 40})
		w.stands(i, api.Park{Flag: true})
		w.stands((i+1)%3, api.Park{Flag: true})
		w.stands((i+2)%3, api.Park{})
		w.comes(micro.Start(0), result{l: at(9, regs(0, int64(i), 1<<40, 1, 1, 0)), how: api.StepDone, value: 1 << 40})
	}
	w := build(t, "now r1\ndone r1")
	done(t, w.p.Tick(most))
	w.comes(micro.Start(0), result{l: at(2, regs(0, most)), how: api.StepDone, value: most})
	// A flag that it set itself lets it go on, a permit stays behind a clear.
	w = build(t, "self r1\nunpark r1\nsetint\nintr r2\npark r3\nsetint\npark r3\nintr r2\npark r3")
	w.comes(at(0, regs(0, 0, 0, -1)), result{l: at(9, regs(0, 1, 1, -1)), how: api.StepBlocked})
}

// P9.2: all marks are told, in their order, of any kind and value, however the step ends.
func TestMarks(t *testing.T) {
	marks := "mark 1 r1\nmark 17 r2\nmark 0 r0\nmark -5 r1\nmark 999999999999999999 r2\nmark 1 r1\n"
	notes := []api.Note{{Kind: 1, Value: most}, {Kind: 17, Value: least}, {}, {Kind: -5, Value: most}, {Kind: 999999999999999999, Value: least}, {Kind: 1, Value: most}}
	r := regs(0, most, least, 3, -1)
	for _, c := range []struct {
		line string
		want result
	}{
		{"ld r5 r0 1", result{l: at(6, r), how: api.StepRan}}, {"park r4", result{l: at(7, r), how: api.StepBlocked}}, {"done r3", result{l: at(7, r), how: api.StepDone, value: 3}},
		{"ret", result{l: at(6, r), how: api.StepTrap}}, {"unpark r3", result{l: at(6, r), how: api.StepTrap}}, {"", result{l: at(6, r), how: api.StepTrap}},
	} {
		w := build(t, marks+c.line, 8)
		c.want.notes = notes
		w.comes(at(0, r), c.want)
	}
	// Those of an earlier step aren't told again.
	w := build(t, "mark 1 r1\nld r5 r0 1\nmark 2 r5\nst r5 r0 1\ndone r5", 8)
	l := w.comes(at(0, r), result{l: at(1, r), notes: []api.Note{{Kind: 1, Value: most}}, how: api.StepRan})
	r[5] = 8
	l = w.comes(l, result{l: at(3, r), notes: []api.Note{{Kind: 2, Value: 8}}, how: api.StepRan})
	w.comes(l, result{l: at(5, r), how: api.StepDone, value: 8})
	many := ""
	notes = nil
	for k := range 190 {
		many += "addi r0 r0 1\nmark 3 r0\n"
		if k < 100 {
			notes = append(notes, api.Note{Kind: 3, Value: int64(k + 1)})
		}
	}
	build(t, many).traps(micro.Start(0), at(200, regs(100)), notes...)
}

// P9.2: done tells its register's value, whatever it is.
func TestDone(t *testing.T) {
	for _, v := range []int64{0, 1, -1, 16, most, least} {
		w := build(t, "done r7\nret")
		r := numbered()
		r[7] = v
		w.comes(at(0, r), result{l: at(1, r), how: api.StepDone, value: v})
	}
}

// P9.2: a trap where there is no instruction.
func TestNoInstruction(t *testing.T) {
	for _, place := range []int{-1, 2, 3, 1024, math.MaxInt, math.MinInt, 1 << 32, -1 << 32} {
		w := build(t, "set r1 1\ndone r1")
		w.traps(at(place, numbered()), at(place, numbered()))
		first := api.Frame{At: 0, R: regs(4)}
		w.traps([]api.Frame{first, {At: place, R: regs(5)}}, []api.Frame{first, {At: place, R: regs(5)}})
		for _, op := range []int{api.InJmp, api.InJeq, api.InCall} {
			w := of(t, []api.Ins{{Op: api.InMark, N: 4}, {Op: op, N: int64(place)}})
			behind := at(place, numbered())
			if op == api.InCall {
				behind = append(at(2, numbered()), behind...)
			}
			w.traps(at(0, numbered()), behind, api.Note{Kind: 4, Value: 1000})
		}
		w = build(t, "ret")
		w.traps([]api.Frame{{At: place, R: regs(1, 2, 3)}, {At: 0, R: regs(4, 5, 6)}}, at(place, regs(4, 5, 3)))
	}
	for _, code := range [][]api.Ins{nil, {}} {
		of(t, code).traps(micro.Start(0), at(0, regs()))
	}
	build(t, "set r1 1\nset r2 2").traps(micro.Start(0), at(2, regs(0, 1, 2)))
}

// P9.2: a trap where an instruction may not be, whatever was done ahead of it; of one that isn't reached there is none.
func TestNotAnInstruction(t *testing.T) {
	for _, x := range []api.Ins{
		{}, {Op: -1}, {Op: 23}, {Op: math.MaxInt}, {Op: math.MinInt}, {Op: api.InSet, A: 16}, {Op: api.InSet, A: -1}, {Op: api.InSet, B: 1}, {Op: api.InSet, N: 1000000000000000000}, {Op: api.InSet, N: least},
		{Op: api.InMov, B: 16}, {Op: api.InMov, N: 1}, {Op: api.InAdd, C: 16}, {Op: api.InAdd, C: -1}, {Op: api.InAdd, N: 1}, {Op: api.InAddi, C: 1},
		{Op: api.InLd, A: 16}, {Op: api.InLd, B: -1}, {Op: api.InSt, C: 1}, {Op: api.InSt, N: -1000000000000000000}, {Op: api.InCas, A: 14}, {Op: api.InCas, A: 15}, {Op: api.InCas, A: -1},
		{Op: api.InJmp, A: 1}, {Op: api.InJeq, A: 16}, {Op: api.InJne, C: 1}, {Op: api.InJlt, B: math.MaxInt}, {Op: api.InCall, B: 1}, {Op: api.InRet, N: 1}, {Op: api.InPark, A: 16}, {Op: api.InUnpark, B: 1},
		{Op: api.InAlloc, A: 99}, {Op: api.InSelf, A: -5}, {Op: api.InNow, N: 1}, {Op: api.InIntr, A: 16}, {Op: api.InSetint, A: 1}, {Op: api.InMark, B: 1}, {Op: api.InDone, A: 16}, {Op: api.InDone, N: 1},
	} {
		w := of(t, []api.Ins{x, {Op: api.InDone}}, 5, 6)
		w.traps(at(0, numbered()), at(0, numbered()))
		w = of(t, []api.Ins{{Op: api.InSet, A: 2, N: 3}, {Op: api.InMark, A: 2, N: 1}, x, {Op: api.InDone}}, 5, 6)
		w.traps(at(0, regs(1)), at(2, regs(1, 0, 3)), api.Note{Kind: 1, Value: 3})
		w.holds(5, 6)
		for k := range 3 {
			w.stands(k, api.Park{})
		}
		w = of(t, []api.Ins{x, {Op: api.InDone}, x})
		w.comes(at(1, regs(4)), result{l: at(2, regs(4)), how: api.StepDone, value: 4})
	}
}

// P9.2: a trap is an access to no cell; nothing is done by it.
func TestNoCell(t *testing.T) {
	for _, op := range []int{api.InLd, api.InSt, api.InCas} {
		for _, c := range []struct{ b, n int64 }{{0, 0}, {3, 0}, {-1, 0}, {4, 0}, {1, 2}, {2, -2}, {1, -2}, {most, 0}, {least, 0}, {most, 1}, {least, -1}, {1 << 32, 0}, {1 << 32, 1}, {most, 2}, {4096, 0}} {
			w := of(t, []api.Ins{{Op: op, A: 3, B: 1, N: c.n}, {Op: api.InDone}}, 5, 6)
			r := regs(0, c.b, 0, 5, 6, 7)
			w.traps(at(0, r), at(0, r))
			w.holds(5, 6)
		}
		// B and N together wrap round, to a cell that is there.
		w := of(t, []api.Ins{{Op: op, A: 3, B: 1, N: 999999999999999999}, {Op: api.InDone}}, 5, 6)
		if got := w.step(at(0, regs(0, -999999999999999997, 0, 6, 7, 8))); got.how != api.StepDone {
			t.Errorf("an access of %d to cell 2: %v", op, got)
		}
	}
	build(t, "ld r0 r0 1").traps(micro.Start(0), at(0, regs()))
	// A new cell is there at once.
	w := build(t, "alloc r1 1\nst r2 r1 0\nld r3 r1 0\ndone r3")
	l := w.comes(at(0, regs(0, 0, 5)), result{l: at(1, regs(0, 1, 5)), how: api.StepRan})
	l = w.comes(l, result{l: at(2, regs(0, 1, 5)), how: api.StepRan})
	w.comes(l, result{l: at(4, regs(0, 1, 5, 5)), how: api.StepDone, value: 5})
}

// P9.2: what was done ahead of a trap stays done.
func TestAheadOfATrap(t *testing.T) {
	w := build(t, "st r2 r1 0\nalloc r3 2\nunpark r0\nsetint\nmark 7 r2\nret", 5)
	w.traps(at(0, regs(0, 1, 99)), at(5, regs(0, 1, 99, 2)), api.Note{Kind: 7, Value: 99})
	w.holds(99, 0, 0)
	w.stands(0, api.Park{Permit: true})
	w.stands(1, api.Park{Flag: true})
	w.stands(2, api.Park{})
}

// P9.2: a trap is 200 instructions of one step none of which ended it, whatever they are.
func TestLocal(t *testing.T) {
	sets := func(n int) []api.Ins { return slices.Repeat([]api.Ins{{Op: api.InAddi, A: 1, B: 1, N: 1}}, n) }
	to := func(n int, x api.Ins) *world { return of(t, append(sets(n), x), 40, 50) }
	fin, park, ld := api.Ins{Op: api.InDone, A: 1}, api.Ins{Op: api.InPark, A: 2}, api.Ins{Op: api.InLd, A: 3, B: 4}
	from := at(0, regs(0, 0, -1, 0, 1))
	r := func(n int64) [api.Regs]int64 { return regs(0, n, -1, 0, 1) }
	for _, n := range []int{0, 1, 198, 199} {
		to(n, fin).comes(from, result{l: at(n+1, r(int64(n))), how: api.StepDone, value: int64(n)})
		to(n, park).comes(from, result{l: at(n+1, r(int64(n))), how: api.StepBlocked})
		if n > 0 {
			to(n, ld).comes(from, result{l: at(n, r(int64(n))), how: api.StepRan})
		}
		to(n, api.Ins{Op: api.InRet}).traps(from, at(n, r(int64(n))))
	}
	for _, n := range []int{200, 201, 1000} {
		for _, x := range []api.Ins{fin, park, ld, {Op: api.InRet}, {Op: api.InSetint}, {}} {
			w := to(n, x)
			w.traps(from, at(200, r(200)))
			w.stands(1, api.Park{})
		}
	}
	// The first one counts if it is an access; one that was left to the next step doesn't.
	w := of(t, slices.Concat([]api.Ins{ld}, sets(198), []api.Ins{fin}), 40)
	w.comes(from, result{l: at(200, regs(0, 198, -1, 40, 1)), how: api.StepDone, value: 198})
	w = of(t, slices.Concat([]api.Ins{ld}, sets(199), []api.Ins{fin}), 40)
	w.traps(from, at(200, regs(0, 199, -1, 40, 1)))
	w = of(t, slices.Concat(sets(150), []api.Ins{ld}, sets(150), []api.Ins{ld}, sets(150), []api.Ins{fin}), 40)
	l := w.comes(from, result{l: at(150, r(150)), how: api.StepRan})
	l = w.comes(l, result{l: at(301, regs(0, 300, -1, 40, 1)), how: api.StepRan})
	w.comes(l, result{l: at(453, regs(0, 450, -1, 40, 1)), how: api.StepDone, value: 450})
}

// P9.2: rounds that don't end, of jumps, calls, or parks that don't block, are a trap behind 200 instructions.
func TestRounds(t *testing.T) {
	build(t, "a:\njmp a").traps(micro.Start(0), at(0, regs()))
	build(t, "a:\naddi r1 r1 1\njmp a").traps(micro.Start(0), at(0, regs(0, 100)))
	build(t, "a:\naddi r1 r1 1\naddi r2 r2 1\njmp a").traps(micro.Start(0), at(2, regs(0, 67, 67)))
	build(t, "a:\naddi r1 r1 1\ncall b\njmp a\nb:\nret").traps(micro.Start(0), at(0, regs(0, 50)))
	build(t, "a:\naddi r1 r1 1\npark r0\njmp a").traps(micro.Start(0), at(2, regs(0, 67))) // it is due at once
	build(t, "a:\naddi r1 r1 1\nmark 1 r15\nsetint\njmp a").traps(micro.Start(0), at(0, regs(0, 50)), slices.Repeat([]api.Note{{Kind: 1}}, 50)...)
	// With an access in each round none is ever too long.
	w := build(t, "a:\nld r1 r0 1\naddi r1 r1 1\nst r1 r0 1\njmp a", 0)
	l := micro.Start(0)
	for k := range 2000 {
		got := w.step(l)
		if got.how != api.StepRan || got.l[0].At != []int{2, 0}[k%2] {
			t.Fatal(k, got)
		}
		l = got.l
	}
	w.holds(1000)
}

// P9.2: ErrArg, and nothing is done.
func TestWrong(t *testing.T) {
	text := "st r1 r1 0\nunpark r0\nsetint\nalloc r2 1\nmark 1 r1\ndone r1"
	good := at(0, regs(0, 1))
	for _, c := range []struct {
		change func(w *world)
		l      []api.Frame
	}{
		{func(w *world) { w.i = -1 }, good}, {func(w *world) { w.i = 3 }, good}, {func(w *world) { w.i = 8 }, good}, {func(w *world) { w.i = math.MaxInt }, good}, {func(w *world) { w.i = math.MinInt }, good},
		{func(w *world) { _, _ = w.p.Park(1, api.Forever) }, good}, {func(w *world) { _, _ = w.p.Park(1, 1) }, good},
		{func(*world) {}, nil}, {func(*world) {}, []api.Frame{}}, {func(*world) {}, slices.Repeat(good, 17)}, {func(*world) {}, slices.Repeat(good, 18)}, {func(*world) {}, slices.Repeat(good, 5000)},
		{func(w *world) { w.i = 3; w.code = nil }, nil},
	} {
		w := build(t, text, 40)
		c.change(w)
		before := w.p.Clone()
		w.refused(c.l)
		w.holds(40)
		for k := range 3 {
			x, err := before.At(k)
			done(t, err)
			w.stands(k, x)
		}
	}
	w := build(t, text, 40)
	a, p := w.a, w.p
	w.a = nil
	w.refused(good)
	w.a, w.p = a, nil
	w.refused(good)
	w.a = nil
	w.refused(good)
	w.refused(nil)
	w.a, w.p = a, p
	w.holds(40)
	// 16 frames are none too many, and another one's block is none of its business.
	if _, err := p.Park(2, api.Forever); err != nil {
		t.Fatal(err)
	}
	if got := w.step(slices.Repeat(good, 16)); got.how != api.StepDone || got.value != 1 {
		t.Errorf("16 frames: %v", got)
	}
}

// P9.3: code and frames stay as they are, also in the room behind the frames; what is told is new memory.
func TestMemory(t *testing.T) {
	for _, text := range []string{"addi r1 r1 1\ncall f\ndone r1\nf:\naddi r0 r0 1\nmark 3 r0\nmark 4 r0\ndone r0", "ret\naddi r1 r1 1\nmark 3 r0\nmark 4 r0\nalloc r2 1\ndone r0", "done r1", "ret\nret\nret", "set r1 5\nld r1 r1 0", "set r1 -1\npark r1", "jmp x\nx:"} {
		w := build(t, text, 7, 8)
		code := slices.Clone(w.code)
		room := make([]api.Frame, 20)
		for k := range room {
			room[k] = api.Frame{At: 1, R: regs(int64(k))}
		}
		room[2].At = 0
		was := slices.Clone(room)
		var told []result
		for range 2 {
			w.p, _ = permit.New(3)
			told = append(told, w.step(room[:3]))
			if !slices.Equal(w.code, code) || !slices.Equal(room, was) {
				t.Fatalf("%q: a step changed code or frames that were handed in", text)
			}
		}
		x, y := told[0], told[1]
		want := slices.Clone(y.l)
		notes := slices.Clone(y.notes)
		for _, l := range [][]api.Frame{x.l[:cap(x.l)], room} {
			for k := range l {
				l[k] = api.Frame{At: -9}
			}
		}
		for k := range x.notes {
			x.notes[k] = api.Note{Kind: -9}
		}
		if !slices.Equal(y.l, want) || !slices.Equal(y.notes, notes) || !slices.Equal(w.code, code) {
			t.Errorf("%q: what was told shares memory", text)
		}
		for k := range room {
			if room[k] != (api.Frame{At: -9}) {
				t.Errorf("%q: frames that were handed in change later", text)
			}
		}
	}
}

// P9.3: nothing is kept: a step hangs on what is handed in alone, whatever was done ahead of it.
func TestNothingIsKept(t *testing.T) {
	for range 3 {
		w := build(t, "set r0 5\ndone r0", 1)
		w.comes(micro.Start(0), result{l: at(2, regs(5)), how: api.StepDone, value: 5})
		build(t, "mark 1 r0\na:\njmp a").step(micro.Start(0))
		w.refused(nil)
		build(t, "set r0 -1\nmark 2 r0\npark r0").step(micro.Start(0))
		w.comes(micro.Start(0), result{l: at(2, regs(5)), how: api.StepDone, value: 5})
		w.holds(1)
	}
}

// machine is what a step should do, by other means: one instruction at a time, of a state that is copied ahead of each.
type machine struct {
	code  []api.Ins
	cells []int64
	room  int
	parks []api.Park
	now   int64
	i     int
	l     []api.Frame
	notes []api.Note
}

// copied is a machine that stands alike.
func (m machine) copied() machine {
	m.cells, m.parks, m.l, m.notes = slices.Clone(m.cells), slices.Clone(m.parks), slices.Clone(m.l), slices.Clone(m.notes)
	return m
}

// one does one instruction: 'g' if the thread goes on, 'b' if it is blocked, 'd' if it is done, 't' if it is trapped.
func (m *machine) one(x api.Ins) (rune, int64) {
	f := &m.l[len(m.l)-1]
	r := &f.R
	place := uint64(0)
	if x.Op == api.InLd || x.Op == api.InSt || x.Op == api.InCas {
		if place = uint64(r[x.B]) + uint64(x.N); place < 1 || place > uint64(len(m.cells)) {
			return 't', 0
		}
	}
	f.At++
	switch x.Op {
	case api.InSet:
		r[x.A] = x.N
	case api.InMov:
		r[x.A] = r[x.B]
	case api.InAdd:
		r[x.A] = int64(uint64(r[x.B]) + uint64(r[x.C]))
	case api.InAddi:
		r[x.A] = int64(uint64(r[x.B]) + uint64(x.N))
	case api.InLd:
		r[x.A] = m.cells[place-1]
	case api.InSt:
		m.cells[place-1] = r[x.A]
	case api.InCas:
		if m.cells[place-1] == r[x.A] {
			m.cells[place-1] = r[x.A+1]
			r[x.A+2] = 1
		} else {
			r[x.A+2] = 0
		}
	case api.InJmp, api.InJeq, api.InJne, api.InJlt:
		if x.Op == api.InJmp || x.Op == api.InJeq && r[x.A] == r[x.B] || x.Op == api.InJne && r[x.A] != r[x.B] || x.Op == api.InJlt && r[x.A] < r[x.B] {
			f.At = int(x.N)
		}
	case api.InCall:
		m.l = append(m.l, api.Frame{At: int(x.N), R: *r})
		if len(m.l) > 16 {
			return 't', 0
		}
	case api.InRet:
		if len(m.l) < 2 {
			return 't', 0
		}
		m.l = m.l[:len(m.l)-1]
		copy(m.l[len(m.l)-1].R[:2], r[:2])
	default:
		return m.rest(x, r)
	}
	return 'g', 0
}

// rest does what isn't about registers and cells alone.
func (m *machine) rest(x api.Ins, r *[api.Regs]int64) (rune, int64) {
	me := &m.parks[m.i]
	switch x.Op {
	case api.InPark:
		until := r[x.A]
		switch {
		case until < -1:
			return 't', 0
		case me.Permit:
			me.Permit = false
		case !me.Flag && (until == -1 || until > m.now):
			me.Blocked, me.Deadline = true, until
			return 'b', 0
		}
	case api.InUnpark:
		who := r[x.A]
		if who < 0 || who >= int64(len(m.parks)) {
			return 't', 0
		}
		if p := &m.parks[who]; p.Blocked {
			*p = api.Park{Flag: p.Flag}
		} else {
			p.Permit = true
		}
	case api.InAlloc:
		r[x.A] = 0
		if x.N > 0 && x.N <= int64(m.room-len(m.cells)) {
			r[x.A] = int64(len(m.cells)) + 1
			m.cells = append(m.cells, make([]int64, x.N)...)
		}
	case api.InSelf:
		r[x.A] = int64(m.i)
	case api.InNow:
		r[x.A] = m.now
	case api.InIntr:
		r[x.A] = map[bool]int64{true: 1}[me.Flag]
		me.Flag = false
	case api.InSetint:
		me.Flag = true
	case api.InMark:
		m.notes = append(m.notes, api.Note{Kind: int(x.N), Value: r[x.A]})
	case api.InDone:
		return 'd', r[x.A]
	}
	return 'g', 0
}

// step is what a step of the machine comes to.
func (m *machine) step() (int, int64) {
	m.notes = nil
	for n := 0; ; n++ {
		f := m.l[len(m.l)-1]
		if n == 200 || f.At < 0 || f.At >= len(m.code) || !ins.May(m.code[f.At]) {
			return api.StepTrap, 0
		}
		x := m.code[f.At]
		if n > 0 && ins.Access(x) {
			return api.StepRan, 0
		}
		ahead := m.copied()
		switch how, v := m.one(x); how {
		case 't':
			*m = ahead
			return api.StepTrap, 0
		case 'b':
			return api.StepBlocked, 0
		case 'd':
			return api.StepDone, v
		}
	}
}

// rand is a row of numbers, the same each time.
type rand uint64

// next is one of 0 to n - 1.
func (r *rand) next(n int) int {
	*r = *r*6364136223846793005 + 1442695040888963407
	return int(uint64(*r) >> 33 % uint64(n))
}

// pick is one of a list.
func pick[T any](r *rand, l []T) T { return l[r.next(len(l))] }

// numbers are what registers, cells and N may be in random steps: mostly few and small ones, so that they meet.
var numbers = []int64{0, 0, 0, 1, 1, 1, 2, 2, 3, 4, 5, 6, 7, -1, -1, -2, 9, 100, most, least, 1 << 32, 999999999999999999}

// code is random code, most of it such as may be.
func code(r *rand) []api.Ins {
	l := make([]api.Ins, r.next(30))
	for k := range l {
		x := api.Ins{Op: 1 + r.next(22), A: r.next(5), B: r.next(5), C: r.next(5), N: pick(r, numbers)}
		if x.Op >= api.InJmp && x.Op <= api.InCall {
			x.N = int64(r.next(len(l)))
		}
		if r.next(60) == 0 {
			x.N = int64(r.next(40) - 5)
		}
		if r.next(60) == 0 {
			x.A = 12 + r.next(5)
		}
		if !ins.May(x) && r.next(80) > 0 {
			x = plain(x)
		}
		l[k] = x
	}
	return l
}

// plain is the instruction with only what its kind has.
func plain(x api.Ins) api.Ins {
	for _, y := range []api.Ins{{Op: x.Op}, {Op: x.Op, N: x.N}, {Op: x.Op, A: x.A}, {Op: x.Op, A: x.A, N: x.N}, {Op: x.Op, A: x.A, B: x.B}, {Op: x.Op, A: x.A, B: x.B, N: x.N}, {Op: x.Op, A: x.A, B: x.B, C: x.C}} {
		if ins.May(y) {
			x = y
		}
	}
	return x
}

// random is a random machine of 3 threads, and of so many cells.
func random(r *rand, cells int) machine {
	m := machine{code: code(r), room: cells + 3, parks: make([]api.Park, 3), cells: make([]int64, cells)}
	for k := range m.cells {
		m.cells[k] = pick(r, numbers)
	}
	return m
}

// frames are random frames.
func frames(r *rand, places int) []api.Frame {
	l := make([]api.Frame, 1+r.next(3))
	if r.next(10) == 0 {
		l = make([]api.Frame, 14+r.next(3))
	}
	for k := range l {
		l[k].At = r.next(places + 1)
		for n := range 7 {
			l[k].R[n] = pick(r, numbers)
		}
	}
	return l
}

// held tells a fault if a step isn't as the machine's, told of what comes of it and of all that it changes; and tells how it ended.
func held(t *testing.T, w *world, m *machine) (int, bool) {
	t.Helper()
	before := values(w.a)
	a, p := w.a.Clone(), w.p.Clone()
	l, notes, how, value, err := micro.Step(w.code, w.a, w.p, m.i, m.l)
	// P9.4: the same step, of what stands alike, comes to the same.
	again, notesAgain, howAgain, valueAgain, errAgain := micro.Step(slices.Clone(w.code), a, p, m.i, slices.Clone(m.l))
	if !slices.Equal(l, again) || !slices.Equal(notes, notesAgain) || how != howAgain || value != valueAgain || err != errAgain || !slices.Equal(values(a), values(w.a)) || !reflect.DeepEqual(p, w.p) {
		t.Error("the same step comes to something else")
	}
	// P9.4: at most one cell is changed, but for new ones.
	changed := 0
	for k, v := range values(w.a) {
		if k < len(before) && v != before[k] {
			changed++
		}
	}
	if changed > 1 {
		t.Errorf("%d cells are changed by one step", changed)
	}
	wantHow, wantValue := m.step()
	same := err == nil && slices.Equal(l, m.l) && slices.Equal(notes, m.notes) && how == wantHow && value == wantValue && slices.Equal(values(w.a), m.cells) && w.p.Now() == m.now
	for k := range m.parks {
		x, err := w.p.At(k)
		same = same && x == m.parks[k] && err == nil
	}
	if !same {
		t.Errorf("thread %d: %v, %v, %d, %d, %v, cells %v; want %v, %v, %d, %d, cells %v, threads %v", m.i, l, notes, how, value, err, values(w.a), m.l, m.notes, wantHow, wantValue, m.cells, m.parks)
	}
	return how, same
}

// P9.2 and P9.4, and P1 at many arguments: rows of steps of random code, of threads in turns, held against what a machine does by other means.
func TestManySteps(t *testing.T) {
	r := rand(1)
	ends := [4]int{}
	for range 6000 {
		m := random(&r, r.next(9))
		w := of(t, m.code, m.cells...)
		m.room = len(m.cells) + 4
		own := [][]api.Frame{frames(&r, len(m.code)), frames(&r, len(m.code)), frames(&r, len(m.code))}
		for range 25 {
			switch k := r.next(3); r.next(12) {
			case 0:
				done(t, w.p.Wake(k))
				m.parks[k] = api.Park{Permit: m.parks[k].Permit, Flag: m.parks[k].Flag}
			case 1:
				done(t, w.p.Interrupt(k))
				m.parks[k] = api.Park{Permit: m.parks[k].Permit, Flag: true}
			}
			m.i = r.next(3)
			m.l = slices.Clone(own[m.i])
			if m.parks[m.i].Blocked {
				w.i = m.i
				w.refused(m.l)
				continue
			}
			how, same := held(t, w, &m)
			if !same || t.Failed() {
				t.Fatalf("code %v, thread %d at %v", m.code, m.i, own[m.i])
			}
			ends[how]++
			own[m.i] = m.l
			if how == api.StepTrap || how == api.StepDone {
				own[m.i] = frames(&r, len(m.code))
			}
		}
	}
	for how, n := range ends {
		if n < 3000 {
			t.Errorf("%d steps that ended with %d tell too little", n, how)
		}
	}
}

// P1: any instruction of odd fields, of an odd thread and frames, comes to an end.
func TestOddArguments(t *testing.T) {
	odd := []int{math.MinInt, -1, 0, 1, 2, 13, 14, 15, 16, 23, 1 << 32, math.MaxInt}
	r := rand(3)
	for range 100000 {
		l := make([]api.Frame, r.next(19))
		for k := range l {
			l[k].At = pick(&r, odd)
			l[k].R = regs(pick(&r, numbers), pick(&r, numbers), pick(&r, numbers))
		}
		c := make([]api.Ins, r.next(5))
		for k := range c {
			c[k] = api.Ins{Op: r.next(25) - 1, A: pick(&r, odd), B: pick(&r, odd[2:4]), N: pick(&r, numbers)}
		}
		w := of(t, c, 1, 2)
		m, notes, how, value, err := micro.Step(c, w.a, w.p, pick(&r, odd), l)
		if err != nil && (err != api.ErrArg || m != nil || notes != nil || how != 0 || value != 0) || err == nil && (len(m) == 0 || len(m) > 16 || how < 0 || how > 3 || how != api.StepDone && value != 0) {
			t.Fatalf("Step of %v at %v: %v, %v, %d, %d, %v", c, l, m, notes, how, value, err)
		}
	}
}
