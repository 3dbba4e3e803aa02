package asm_test

import (
	"errors"
	"math"
	"slices"
	"strconv"
	"strings"
	"testing"
	"unsafe"

	"thole/api"
	"thole/asm"
	"thole/ins"
)

// ret is an instruction without anything.
var ret = api.Ins{Op: api.InRet}

// jmp is a jump to a place.
func jmp(at int64) api.Ins { return api.Ins{Op: api.InJmp, N: at} }

// label is one of this name, at this place.
func label(name string, n int) api.Label { return api.Label{Name: name, At: n} }

// rets are so many lines of ret, each with a new line behind it.
func rets(n int) string { return strings.Repeat("ret\n", n) }

// is tells a fault if texts don't come to this code and these labels.
func is(t *testing.T, texts []string, code []api.Ins, labels []api.Label) {
	t.Helper()
	c, l, err := asm.Assemble(texts...)
	if !slices.Equal(c, code) || !slices.Equal(l, labels) || err != nil {
		t.Errorf("Assemble(%s) = %v, %v, %v; want %v, %v, nil", show(texts), c, l, err, code, labels)
	}
}

// faulty tells a fault if texts don't come to this error at this line, and to nothing else.
func faulty(t *testing.T, texts []string, at int, code api.Code) {
	t.Helper()
	c, l, err := asm.Assemble(texts...)
	if c != nil || l != nil {
		t.Errorf("Assemble(%s): %v, %v beside the error %v", show(texts), c, l, err)
	}
	if s, ok := err.(*api.Spot); !ok || s == nil || s.At != at || s.Err != code {
		t.Errorf("Assemble(%s): %v; want %v at %d", show(texts), err, code, at)
	}
	var s *api.Spot
	if !errors.As(err, &s) || !errors.Is(err, code) {
		t.Errorf("Assemble(%s): %v is no Spot of %v", show(texts), err, code)
	}
}

// show is texts as a fault tells them: the beginning of long ones alone.
func show(texts []string) string {
	s := strconv.Quote(strings.Join(texts, "\n"))
	if len(s) > 300 {
		s = s[:300] + " .."
	}
	return strconv.Itoa(len(texts)) + " texts: " + s
}

// read is what Assemble should answer of lines, by other means: At is -1 if there is no fault.
func read(lines []string) (code []api.Ins, labels []api.Label, at int, err error) {
	targets := map[int]string{}
	for i, line := range lines {
		l, parseErr := ins.Parse(line)
		place := slices.IndexFunc(labels, func(x api.Label) bool { return x.Name == l.Label })
		switch {
		case parseErr != nil:
			return nil, nil, i, api.ErrForm
		case l == api.Line{}:
		case l.Label != "" && place >= 0:
			return nil, nil, i, api.ErrTwice
		case l.Label != "":
			labels = append(labels, api.Label{Name: l.Label, At: len(code)})
		case len(code) >= 1024:
			return nil, nil, i, api.ErrLarge
		default:
			if l.Target != "" {
				targets[i] = l.Target
				l.Ins.N = -int64(i) - 1 // to be found again
			}
			code = append(code, l.Ins)
		}
	}
	for i := range lines {
		if targets[i] == "" {
			continue
		}
		place := slices.IndexFunc(labels, func(x api.Label) bool { return x.Name == targets[i] })
		if place < 0 {
			return nil, nil, i, api.ErrNone
		}
		for k, x := range code {
			if (x.Op >= api.InJmp && x.Op <= api.InCall) && x.N == -int64(i)-1 {
				code[k].N = int64(labels[place].At)
			}
		}
	}
	return code, labels, -1, nil
}

// held tells a fault if texts of these lines don't come to what is read by other means, and tells which error it is, if any.
func held(t *testing.T, lines, texts []string) error {
	t.Helper()
	code, labels, at, err := read(lines)
	if err != nil {
		faulty(t, texts, at, err.(api.Code))
	} else {
		is(t, texts, code, labels)
	}
	return err
}

// P8.1: the chapter's example.
func TestExample(t *testing.T) {
	is(t, []string{"a:\njmp a"}, []api.Ins{jmp(0)}, []api.Label{label("a", 0)})
	is(t, []string{"a:", "jmp a"}, []api.Ins{jmp(0)}, []api.Label{label("a", 0)})
}

// P8.1: each instruction is in the code as its line tells it, in their order; those that go to a name have its place.
func TestEachInstruction(t *testing.T) {
	is(t, []string{`
		set r1 -25
		mov r2 r3
		add r4 r5 r6
		addi r7 r8 9
	a:
		ld r9 r10 0
		st r11 r12 13
		cas r5 r8 1
		jmp d
		jeq r0 r1 c
		jne r1 r0 b
	b:
		jlt r14 r15 a
		call e.f_1
		ret
	c:
	d:
		park r2
		unpark r3
		alloc r4 16
		self r5
	e.f_1:
		now r6
		intr r7
		setint
		mark 17 r8
		done r9
	end:`}, []api.Ins{
		{Op: 1, A: 1, N: -25}, {Op: 2, A: 2, B: 3}, {Op: 3, A: 4, B: 5, C: 6}, {Op: 4, A: 7, B: 8, N: 9},
		{Op: 5, A: 9, B: 10}, {Op: 6, A: 11, B: 12, N: 13}, {Op: 7, A: 5, B: 8, N: 1},
		{Op: 8, N: 13}, {Op: 9, B: 1, N: 13}, {Op: 10, A: 1, N: 10}, {Op: 11, A: 14, B: 15, N: 4}, {Op: 12, N: 17}, {Op: 13},
		{Op: 14, A: 2}, {Op: 15, A: 3}, {Op: 16, A: 4, N: 16}, {Op: 17, A: 5},
		{Op: 18, A: 6}, {Op: 19, A: 7}, {Op: 20}, {Op: 21, A: 8, N: 17}, {Op: 22, A: 9},
	}, []api.Label{label("a", 4), label("b", 10), label("c", 13), label("d", 13), label("e.f_1", 17), label("end", 22)})
}

// P8.1: a label is the place of the next instruction, whatever stands between; labels are told in the order of their lines.
func TestLabels(t *testing.T) {
	for _, c := range []struct {
		texts  []string
		code   []api.Ins
		labels []api.Label
	}{
		{[]string{"a:"}, nil, []api.Label{label("a", 0)}},
		{[]string{"z:\ny:\na:"}, nil, []api.Label{label("z", 0), label("y", 0), label("a", 0)}},
		{[]string{"ret\na:"}, []api.Ins{ret}, []api.Label{label("a", 1)}},
		{[]string{"a:\n\n; x\n\t\nret\n; y\nb:"}, []api.Ins{ret}, []api.Label{label("a", 0), label("b", 1)}},
		{[]string{"a:", "", "; x", "ret", "b:", "ret", "c:"}, []api.Ins{ret, ret}, []api.Label{label("a", 0), label("b", 1), label("c", 2)}},
		{[]string{"b:\nret\na:\nret\nc:\nret"}, []api.Ins{ret, ret, ret}, []api.Label{label("b", 0), label("a", 1), label("c", 2)}},
		{[]string{" a:\t\n\tret "}, []api.Ins{ret}, []api.Label{label("a", 0)}},
		{[]string{"jmp a\njmp b\na:\nb:"}, []api.Ins{jmp(2), jmp(2)}, []api.Label{label("a", 2), label("b", 2)}},
		{[]string{"jmp b\na:\njmp a\nb:\njmp b\njmp a"}, []api.Ins{jmp(2), jmp(1), jmp(2), jmp(1)}, []api.Label{label("a", 1), label("b", 2)}},
		{[]string{"ret:\ncall ret\nr1:\nset:\njmp set\njeq r1 r1 r1"}, []api.Ins{{Op: api.InCall}, jmp(1), {Op: api.InJeq, A: 1, B: 1, N: 1}}, []api.Label{label("ret", 0), label("r1", 1), label("set", 1)}},
		{[]string{"call b", "ret\nb:", "call a\na:"}, []api.Ins{{Op: api.InCall, N: 2}, ret, {Op: api.InCall, N: 3}}, []api.Label{label("b", 2), label("a", 3)}},
		{[]string{"a:\naa:\nret\na.a:\na_:\nret\nabcdefghijklmnopqrstuvwx:\njmp a\njmp aa\njmp a.a\njmp a_\njmp abcdefghijklmnopqrstuvwx"}, []api.Ins{ret, ret, jmp(0), jmp(0), jmp(1), jmp(1), jmp(2)},
			[]api.Label{label("a", 0), label("aa", 0), label("a.a", 1), label("a_", 1), label("abcdefghijklmnopqrstuvwx", 2)}},
	} {
		is(t, c.texts, c.code, c.labels)
	}
}

// P8.1: texts without instructions and labels are code of none.
func TestNothing(t *testing.T) {
	for _, texts := range [][]string{nil, {}, {""}, {"", ""}, {"\n"}, {"\n\n\n", "\n"}, {" "}, {"\t\n ; jmp nowhere\n;a:\n;"}, make([]string, 2000)} {
		is(t, texts, nil, nil)
	}
}

// P8.1: lines are parted by new lines alone, and counted through all texts; a text has one line more than new lines.
func TestNumbersOfLines(t *testing.T) {
	for _, c := range []struct {
		texts []string
		at    int
	}{
		{[]string{"x y"}, 0}, {[]string{"\nx y"}, 1}, {[]string{"x y\n"}, 0}, {[]string{"ret\nx y\nret"}, 1}, {[]string{"\n\n\nx y\n\n"}, 3},
		{[]string{"", "x y"}, 1}, {[]string{"", "", "", "x y"}, 3}, {[]string{"ret", "x y"}, 1}, {[]string{"ret\n", "x y"}, 2}, {[]string{"ret\n\n", "\nx y"}, 4},
		{[]string{"a:\nb:", "; x", "ret\nret", "x y", "z"}, 5}, {[]string{"ret", "ret\nret\nret\n", "\n", "x y"}, 7},
		{[]string{"ret\r\nret"}, 0}, {[]string{"ret\nret\r"}, 1}, {[]string{"ret\rret"}, 0}, {[]string{"ret\vret"}, 0}, {[]string{"ret\fret"}, 0}, {[]string{"ret\u2028ret"}, 0}, {[]string{"ret\u0085ret"}, 0}, {[]string{"ret\x00"}, 0},
	} {
		faulty(t, c.texts, c.at, api.ErrForm)
	}
	// No line goes from one text on into the next one.
	faulty(t, []string{"jmp", " a", "a:"}, 0, api.ErrForm)
	faulty(t, []string{"ret", "a", ":"}, 1, api.ErrForm)
	for n := range 50 {
		for k := range n {
			texts := slices.Repeat([]string{"ret"}, n)
			texts[k] = "jmp nowhere"
			faulty(t, texts, k, api.ErrNone)
			faulty(t, []string{strings.Join(texts, "\n")}, k, api.ErrNone)
			faulty(t, []string{strings.Join(texts, "\n\n")}, 2*k, api.ErrNone)
		}
	}
}

// P8.1: ErrForm, at a line that is none.
func TestForm(t *testing.T) {
	for _, line := range []string{"x", "x y", ":", "A:", "9:", "a: ret", "a b:", "set r1", "set r16 1", "set r1 1 1", "cas r14 r0 0", "jmp", "jmp a b", "jmp 1", "JMP a", "ret ret", "ret ; x", "mark r1 1", "set r0 1000000000000000000", "\x00", "\xff", "é:", "abcdefghijklmnopqrstuvwxy:", "jmp abcdefghijklmnopqrstuvwxy", "ret\r"} {
		faulty(t, []string{line}, 0, api.ErrForm)
		faulty(t, []string{"a:\njmp a\n" + line + "\nret"}, 2, api.ErrForm)
		faulty(t, []string{"a:", "jmp a", "", line, "x y"}, 3, api.ErrForm)
	}
}

// P8.1: ErrTwice, at a label that is there already, wherever it stood first.
func TestTwice(t *testing.T) {
	for _, c := range []struct {
		texts []string
		at    int
	}{
		{[]string{"a:\na:"}, 1}, {[]string{"a:\n\na:"}, 2}, {[]string{"a:\nret\na:"}, 2}, {[]string{"a:", "a:"}, 1}, {[]string{"a:\nret\n", "", "; x\n a:\t"}, 5},
		{[]string{"a:\nb:\nc:\nb:\na:"}, 3}, {[]string{"a:\nb:\nb:\nb:\na:"}, 2}, {[]string{"jmp a\na:\njmp a\na:"}, 3}, {[]string{"ret:\nret\nret:"}, 2},
		{[]string{"abcdefghijklmnopqrstuvwx:\nabcdefghijklmnopqrstuvw:\nabcdefghijklmnopqrstuvwx:"}, 2},
	} {
		faulty(t, c.texts, c.at, api.ErrTwice)
	}
	many := ""
	for i := range 3000 {
		many += "l" + strconv.Itoa(i) + ":\n"
	}
	for _, i := range []int{0, 1, 1500, 2998, 2999} {
		faulty(t, []string{many, "l" + strconv.Itoa(i) + ":"}, 3001, api.ErrTwice)
	}
	c, l, err := asm.Assemble(many, "ret", "l3000:")
	if len(c) != 1 || len(l) != 3001 || err != nil || l[2999] != label("l2999", 0) || l[3000] != label("l3000", 1) {
		t.Errorf("3001 labels: %d instructions, %d labels, %v", len(c), len(l), err)
	}
}

// P8.1: ErrLarge, at an instruction that is one too many; labels, and lines that are neither, may stand behind the last one.
func TestLarge(t *testing.T) {
	for _, n := range []int{1023, 1024} {
		is(t, []string{rets(n)}, slices.Repeat([]api.Ins{ret}, n), nil)
		is(t, slices.Repeat([]string{"ret"}, n), slices.Repeat([]api.Ins{ret}, n), nil)
		is(t, []string{"a:\n" + rets(n) + "b:\n\n; x\nc:", "", "d:"}, slices.Repeat([]api.Ins{ret}, n), []api.Label{label("a", 0), label("b", n), label("c", n), label("d", n)})
	}
	is(t, []string{rets(1023) + "jmp end\nend:"}, append(slices.Repeat([]api.Ins{ret}, 1023), jmp(1024)), []api.Label{label("end", 1024)})
	is(t, []string{"jmp end\n" + rets(1022), "last:\njmp last\nend:"}, slices.Concat([]api.Ins{jmp(1024)}, slices.Repeat([]api.Ins{ret}, 1022), []api.Ins{jmp(1023)}), []api.Label{label("last", 1023), label("end", 1024)})
	for _, line := range []string{"ret", "set r1 1", "jmp a", "jmp nowhere", "done r0", "  park r1\t"} {
		faulty(t, []string{"a:\n" + rets(1024) + line}, 1025, api.ErrLarge)
		faulty(t, []string{"a:\n" + rets(1024) + line + "\n" + rets(5)}, 1025, api.ErrLarge)
		faulty(t, []string{"a:", rets(500) + "; x", rets(524) + "b:\n\nc:\n" + line}, 1+501+524+3, api.ErrLarge)
		faulty(t, slices.Concat([]string{"a:\n"}, slices.Repeat([]string{"ret"}, 1024), []string{line}), 2+1024, api.ErrLarge)
	}
	faulty(t, []string{rets(5000)}, 1024, api.ErrLarge)
}

// P8.1: ErrNone, at the first line that goes to a name that isn't there.
func TestNone(t *testing.T) {
	for _, line := range []string{"jmp b", "jeq r1 r2 b", "jne r1 r2 b", "jlt r1 r2 b", "call b", "  call b\t"} {
		faulty(t, []string{line}, 0, api.ErrNone)
		faulty(t, []string{"a:\n" + line}, 1, api.ErrNone)
		faulty(t, []string{"jmp a\na:\nret\n" + line + "\n" + line + "\njmp c"}, 3, api.ErrNone)
		faulty(t, []string{"; b:", "jmp a", "a:\n", line, "jmp a"}, 4, api.ErrNone)
		faulty(t, []string{rets(1023) + line + "\na:"}, 1023, api.ErrNone)
		faulty(t, []string{"bb:\nb.:\nb_:\nb0:\na:\nbbb:\n" + line}, 6, api.ErrNone)
	}
	// It is the first line in their order, not the first name.
	faulty(t, []string{"jmp z\njmp a\nz:\njmp b"}, 1, api.ErrNone)
	faulty(t, []string{"jmp c\njmp b\njmp a\nb:\nc:"}, 2, api.ErrNone)
}

// P8.1: the first line at fault is told, whatever its fault is; ErrNone behind all others.
func TestFirstFault(t *testing.T) {
	for _, c := range []struct {
		texts []string
		at    int
		code  api.Code
	}{
		{[]string{"a:\na:\nx y"}, 1, api.ErrTwice}, {[]string{"a:\nx y\na:"}, 1, api.ErrForm}, {[]string{"a:", "x y", "a:"}, 1, api.ErrForm}, {[]string{"a:", "a:", "x y"}, 1, api.ErrTwice},
		{[]string{"jmp b\na:\na:"}, 2, api.ErrTwice}, {[]string{"jmp b\nx y"}, 1, api.ErrForm}, {[]string{"jmp b", "jmp c", "", "x y", "a:\na:"}, 3, api.ErrForm}, {[]string{"jmp b\na:\njmp c", "a:"}, 3, api.ErrTwice},
		{[]string{"jmp b\n" + rets(1024)}, 1024, api.ErrLarge}, {[]string{"jmp b\n" + rets(1023)}, 0, api.ErrNone}, {[]string{rets(1024) + "x y"}, 1024, api.ErrForm},
		{[]string{rets(1024) + "ret\nx y"}, 1024, api.ErrLarge}, {[]string{rets(1024) + "x y\nret"}, 1024, api.ErrForm}, {[]string{"a:\n" + rets(1024) + "a:\nret\n"}, 1025, api.ErrTwice}, {[]string{"a:\n" + rets(1024) + "ret\na:\n"}, 1025, api.ErrLarge},
		{[]string{"a:\n" + rets(1000) + "a:\n" + rets(100) + "x y"}, 1001, api.ErrTwice}, {[]string{"a:\n" + rets(1000) + "x y\na:\n" + rets(100)}, 1001, api.ErrForm},
	} {
		faulty(t, c.texts, c.at, c.code)
	}
}

// P8.2: the place of the first label of a name, whatever labels are handed in.
func TestFind(t *testing.T) {
	_, l, err := asm.Assemble("a:\nret\nb:\nc:\nret\nabcdefghijklmnopqrstuvwx:")
	if err != nil {
		t.Fatal(err)
	}
	odd := []api.Label{label("b", 7), label("a", 3), label("b", 1), label("", 9), label("A b", -5), label("a", 0), label("\xff", math.MaxInt), label("z", math.MinInt), label("", 2), label("m", -1)}
	for _, c := range []struct {
		l    []api.Label
		name string
		at   int
	}{
		{l, "a", 0}, {l, "b", 1}, {l, "c", 1}, {l, "abcdefghijklmnopqrstuvwx", 2},
		{l, "d", -1}, {l, "", -1}, {l, "A", -1}, {l, "a:", -1}, {l, " a", -1}, {l, "aa", -1}, {l, "abcdefghijklmnopqrstuvw", -1}, {l, "abcdefghijklmnopqrstuvwxy", -1}, {l, "\x00", -1},
		{odd, "b", 7}, {odd, "a", 3}, {odd, "", 9}, {odd, "A b", -5}, {odd, "\xff", math.MaxInt}, {odd, "z", math.MinInt}, {odd, "m", -1}, {odd, "x", -1}, {odd[2:], "b", 1}, {odd[2:], "a", 0}, {odd[6:], "a", -1},
		{nil, "a", -1}, {nil, "", -1}, {[]api.Label{}, "a", -1}, {[]api.Label{label("a", 5)}, "a", 5}, {[]api.Label{label("a", 5)}, "b", -1}, {[]api.Label{label("", 0)}, "", 0}, {[]api.Label{label("", 0)}, "a", -1},
	} {
		if at := asm.Find(c.l, c.name); at != c.at {
			t.Errorf("Find(%v, %q) = %d, want %d", c.l, c.name, at, c.at)
		}
	}
}

// P8.2: all of many labels are found, at the first one of their name.
func TestFindOfMany(t *testing.T) {
	l := []api.Label{}
	for i := range 2000 {
		l = append(l, api.Label{Name: "l" + strconv.Itoa(i%1500), At: 3*i + 1})
	}
	for i := range 1500 {
		if at := asm.Find(l, "l"+strconv.Itoa(i)); at != 3*i+1 {
			t.Errorf("Find of l%d: %d, want %d", i, at, 3*i+1)
		}
	}
	if at := asm.Find(l, "l1500"); at != -1 {
		t.Errorf("Find of a name that isn't there: %d", at)
	}
}

// P8.3: what is handed in stays as it is.
func TestArgumentsStay(t *testing.T) {
	texts := []string{"b:\njmp a", " ; x", "a:\njmp b\n", "ret"}
	before := slices.Clone(texts)
	is(t, texts, []api.Ins{jmp(1), jmp(0), ret}, []api.Label{label("b", 0), label("a", 1)})
	if !slices.Equal(texts, before) {
		t.Errorf("Assemble changed texts to %q", texts)
	}
	texts[1] = "x y"
	before = slices.Clone(texts)
	faulty(t, texts, 2, api.ErrForm)
	if !slices.Equal(texts, before) {
		t.Errorf("Assemble changed texts to %q", texts)
	}
	l := []api.Label{label("z", 3), label("a", 9), label("z", 1)}
	_, _, _ = asm.Find(l, "a"), asm.Find(l, "z"), asm.Find(l, "x")
	if !slices.Equal(l, []api.Label{label("z", 3), label("a", 9), label("z", 1)}) {
		t.Errorf("Find changed labels to %v", l)
	}
}

// P8.3: what is told is new memory: to change it changes no later answer, and no text is kept by a name.
func TestAnswersAreNewMemory(t *testing.T) {
	const text = "there:\njmp there\njmp other\nother:\nset r1 5"
	code, labels := []api.Ins{jmp(0), jmp(2), {Op: api.InSet, A: 1, N: 5}}, []api.Label{label("there", 0), label("other", 2)}
	for range 3 {
		given := strings.Clone(text)
		c, l, err := asm.Assemble(given)
		if !slices.Equal(c, code) || !slices.Equal(l, labels) || err != nil {
			t.Fatalf("Assemble(%q) = %v, %v, %v", text, c, l, err)
		}
		for _, x := range l {
			if within(x.Name, given) {
				t.Errorf("the name %q shares memory with the text", x.Name)
			}
		}
		for i := range c {
			c[i] = api.Ins{Op: -1, N: -1}
		}
		for i := range l {
			l[i] = label("x", -9)
		}
	}
	_, _, first := asm.Assemble("x y")
	_, _, second := asm.Assemble("x y")
	first.(*api.Spot).At = 77
	if second.(*api.Spot).At != 0 {
		t.Error("two errors are one")
	}
	faulty(t, []string{"x y"}, 0, api.ErrForm)
}

// within tells whether a string's bytes are some of another one's.
func within(part, whole string) bool {
	from := uintptr(unsafe.Pointer(unsafe.StringData(whole)))
	at := uintptr(unsafe.Pointer(unsafe.StringData(part)))
	return at >= from && at < from+uintptr(len(whole))
}

// P8.3: what a call answers hangs on its arguments alone: no label, instruction or line is there still in the next one.
func TestNothingIsKept(t *testing.T) {
	calls := []func(){
		func() { _, _, _ = asm.Assemble("a:\nb:\njmp a", "ret") },
		func() { _, _, _ = asm.Assemble("a:\na:") },
		func() { _, _, _ = asm.Assemble("jmp nowhere") },
		func() { _, _, _ = asm.Assemble(rets(1024)) },
		func() { _, _, _ = asm.Assemble(rets(1025)) },
		func() { _, _, _ = asm.Assemble("\n\nx y") },
		func() { asm.Find([]api.Label{label("a", 5), label("c", 6)}, "c") },
	}
	for range 3 {
		for _, call := range calls {
			call()
			is(t, []string{"ret\na:\njmp a"}, []api.Ins{ret, jmp(1)}, []api.Label{label("a", 1)})
			faulty(t, []string{"jmp b"}, 0, api.ErrNone)
			faulty(t, []string{"ret\nx y"}, 1, api.ErrForm)
			if at := asm.Find([]api.Label{label("b", 2)}, "a"); at != -1 {
				t.Errorf("Find of a name that isn't there: %d", at)
			}
		}
	}
}

// rand is a row of numbers, the same each time.
type rand uint64

// next is one of 0 to n - 1.
func (r *rand) next(n int) int {
	*r = *r*6364136223846793005 + 1442695040888963407
	return int(uint64(*r) >> 33 % uint64(n))
}

// pick is one of a list.
func pick[T any](r *rand, l []T) T { return l[r.next(len(l))] }

// lines are some: few of them are none, or go to names that are seldom there.
func (r *rand) lines(most int) []string {
	names := []string{"a", "b", "c", "loop", "loop_1", "loop.1", "end", "x9", "ret", "abcdefghijklmnopqrstuvwx"}
	plain := []string{"ret", "set r1 5", "mov r2 r3", "add r1 r2 r3", "ld r1 r2 3", "cas r5 r8 1", "setint", "mark 3 r4", "done r0", " park r1 "}
	neither := []string{"", " ", "\t", "; x", ";a:", " ; jmp a"}
	goes := []string{"jmp ", "call ", "jeq r1 r2 ", "jne r3 r4 ", "\tjlt r5 r6 "}
	wrong := []string{"x", "jmp", "A:", "ret ;", "set r1", "\r", "jmp A", "a::", "\xff"}
	l := []string{}
	for range r.next(most) {
		switch n := r.next(40); {
		case n < 8:
			l = append(l, pick(r, names)+":")
		case n < 16:
			l = append(l, pick(r, goes)+pick(r, names[:1+r.next(len(names))]))
		case n < 22:
			l = append(l, pick(r, neither))
		case n < 39 || r.next(2) == 0:
			l = append(l, pick(r, plain))
		default:
			l = append(l, pick(r, wrong))
		}
	}
	return l
}

// parted are texts of these lines, one behind the other; each new text begins at some line.
func (r *rand) parted(lines []string) []string {
	texts := []string{}
	for i, line := range lines {
		if i == 0 || r.next(3) == 0 {
			texts = append(texts, line)
		} else {
			texts[len(texts)-1] += "\n" + line
		}
	}
	return texts
}

// P8.1, and P1 at many texts, held against what is read by other means; some of them have about as many instructions as there may be.
func TestManyTexts(t *testing.T) {
	r := rand(1)
	came := map[error]int{}
	for i := range 20000 {
		lines := r.lines(16)
		if i%50 == 0 {
			lines = slices.Concat(r.lines(4), slices.Repeat([]string{"ret"}, 1019+r.next(6)), lines)
		}
		came[held(t, lines, r.parted(lines))]++
		if t.Failed() {
			return
		}
	}
	for _, err := range []error{nil, api.ErrForm, api.ErrTwice, api.ErrLarge, api.ErrNone} {
		if came[err] < 50 {
			t.Errorf("%v came %d times, which tells too little", err, came[err])
		}
	}
}

// P8.4: texts together are their lines, one behind the other, however they are parted.
func TestTextsTogether(t *testing.T) {
	r := rand(2)
	for range 5000 {
		lines := append(r.lines(16), "ret")
		held(t, lines, lines)
		held(t, lines, []string{strings.Join(lines, "\n")})
		held(t, lines, r.parted(lines))
		if t.Failed() {
			return
		}
	}
}

// P8.4: a line that is neither changes nothing but the numbers of lines.
func TestLinesThatAreNeither(t *testing.T) {
	r := rand(3)
	for range 5000 {
		lines := r.lines(16)
		code, labels, err := asm.Assemble(lines...)
		more, numbers := []string{}, []int{}
		for _, line := range lines {
			for r.next(3) == 0 {
				more = append(more, pick(&r, []string{"", " ", "\t \t", ";", "; a:", ";x y"}))
			}
			numbers = append(numbers, len(more))
			more = append(more, line)
		}
		if s, ok := err.(*api.Spot); ok {
			faulty(t, r.parted(more), numbers[s.At], s.Err.(api.Code))
		} else {
			is(t, r.parted(more), code, labels)
		}
		if t.Failed() {
			return
		}
	}
}

// P8.1 and P8.2: what was assembled is found where its name's goers go.
func TestFoundWhereItGoes(t *testing.T) {
	r := rand(4)
	whole := 0
	for range 5000 {
		lines := r.lines(12)
		code, labels, err := asm.Assemble(lines...)
		if err != nil {
			continue
		}
		whole++
		at := 0
		for _, line := range lines {
			l, _ := ins.Parse(line)
			if l.Label != "" && asm.Find(labels, l.Label) != at {
				t.Errorf("%q: %s is found at %d, not at %d", lines, l.Label, asm.Find(labels, l.Label), at)
			}
			if l.Ins.Op == 0 {
				continue
			}
			if l.Target != "" && code[at].N != int64(asm.Find(labels, l.Target)) || !ins.May(code[at]) {
				t.Errorf("%q: %v goes elsewhere than to %s", lines, code[at], l.Target)
			}
			at++
		}
		if at != len(code) {
			t.Errorf("%q: %d instructions, want %d", lines, len(code), at)
		}
	}
	if whole < 500 {
		t.Errorf("%d texts without a fault tell too little", whole)
	}
}

// P1: any bytes come to code, or to an error at one of their lines.
func TestAnyBytes(t *testing.T) {
	r := rand(5)
	bytes := "ab:;\n\n \t.jmp r19ret\x00\xff"
	for range 50000 {
		texts := []string{}
		for range r.next(4) {
			b := make([]byte, r.next(12))
			for i := range b {
				b[i] = bytes[r.next(len(bytes))]
				if r.next(8) == 0 {
					b[i] = byte(r.next(256))
				}
			}
			texts = append(texts, string(b))
		}
		lines := []string{}
		for _, text := range texts {
			lines = append(lines, strings.Split(text, "\n")...)
		}
		held(t, lines, texts)
		if t.Failed() {
			return
		}
	}
}

// P1: texts that are long, and many of them, end as what they are.
func TestLongTexts(t *testing.T) {
	const long = 1 << 20
	is(t, []string{strings.Repeat("\n", long)}, nil, nil)
	is(t, make([]string, long), nil, nil)
	is(t, []string{strings.Repeat("; x\n", long) + "ret\na:"}, []api.Ins{ret}, []api.Label{label("a", 1)})
	is(t, []string{";" + strings.Repeat("x", long), strings.Repeat(" ", long)}, nil, nil)
	faulty(t, []string{strings.Repeat("\n", long) + "x y"}, long, api.ErrForm)
	faulty(t, []string{"a:", strings.Repeat(";\n", long), "a:"}, long+2, api.ErrTwice)
	faulty(t, append(make([]string, long), "jmp a", "b:"), long, api.ErrNone)
	faulty(t, []string{strings.Repeat("a", long) + ":"}, 0, api.ErrForm)
	faulty(t, []string{"jmp " + strings.Repeat("a", long)}, 0, api.ErrForm)
	faulty(t, []string{strings.Repeat("\n", long), rets(long)}, long+1+1024, api.ErrLarge)
}
