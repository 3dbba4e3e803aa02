package ins_test

import (
	"math"
	"regexp"
	"slices"
	"strconv"
	"strings"
	"testing"
	"unsafe"

	"thole/api"
	"thole/ins"
)

// row is what the chapter's table says of an instruction: its word, what it has, and the greatest register that its A may be.
type row struct {
	op    int
	word  string
	has   []string
	mostA int
}

// rows are the chapter's table, written out.
var rows = []row{
	{1, "set", []string{"A", "N"}, 15},
	{2, "mov", []string{"A", "B"}, 15},
	{3, "add", []string{"A", "B", "C"}, 15},
	{4, "addi", []string{"A", "B", "N"}, 15},
	{5, "ld", []string{"A", "B", "N"}, 15},
	{6, "st", []string{"A", "B", "N"}, 15},
	{7, "cas", []string{"A", "B", "N"}, 13},
	{8, "jmp", []string{"T"}, 0},
	{9, "jeq", []string{"A", "B", "T"}, 15},
	{10, "jne", []string{"A", "B", "T"}, 15},
	{11, "jlt", []string{"A", "B", "T"}, 15},
	{12, "call", []string{"T"}, 0},
	{13, "ret", nil, 0},
	{14, "park", []string{"A"}, 15},
	{15, "unpark", []string{"A"}, 15},
	{16, "alloc", []string{"A", "N"}, 15},
	{17, "self", []string{"A"}, 15},
	{18, "now", []string{"A"}, 15},
	{19, "intr", []string{"A"}, 15},
	{20, "setint", nil, 0},
	{21, "mark", []string{"N", "A"}, 15},
	{22, "done", []string{"A"}, 15},
}

// noOps are numbers of no instruction.
var noOps = []int{math.MinInt, math.MinInt32, -256, -22, -7, -1, 0, 23, 24, 32, 64, 255, 257, 1<<32 + 7, math.MaxInt32, math.MaxInt}

// ends are what a register's field may be, and what lies beside it.
var ends = []int{math.MinInt, -1 << 32, -16, -2, -1, 0, 1, 2, 7, 9, 10, 12, 13, 14, 15, 16, 17, 32, 256, 1 << 32, 1<<32 + 3, math.MaxInt}

// great is the greatest number of 18 digits.
const great = 999999999999999999

// numbers are what N may be, and what lies beside it.
var numbers = []int64{math.MinInt64, math.MinInt64 + 1, -great - 2, -great - 1, -great, -great + 1, -1 << 53, -1 << 32, -1001, -17, -10, -9, -2, -1, 0, 1, 2, 9, 10, 11, 100, 1000, 4096, 1 << 31, 1 << 32, 1<<53 + 1, great - 1, great, great + 1, great + 2, 1 << 60, 1<<62 + 5, math.MaxInt64 - 1, math.MaxInt64}

// names are some that are, from the shortest to the longest.
var names = []string{"a", "z", "m", "a0", "z9", "a.", "a_", "loop", "r0", "r16", "ret", "set", "x..y__z", "queue.acq", "lock.tryfair", "op.lock", "a123456789", "abcdefghijklmnopqrstuvwx", "zyxwvutsrqponmlkjihgfe.9", "a_______________________"}

// noNames are some that aren't.
var noNames = []string{"", "A", "0", "9a", "_", "_a", ".", ".a", "-", "-a", "aB", "a-b", "a b", " a", "a ", "a\t", "\ta", "a:", ":", ":a", ";", ";a", "a;", "a,b", "a/b", "a@", "a`", "a{", "a^", "a[", "é", "aé", "a\x00", "\x00", "a\n", "\na", "a\r", "a\xff", "\xff", "a\u00a0", "ａ", "a１", "abcdefghijklmnopqrstuvwxy", "a________________________", strings.Repeat("a", 25), strings.Repeat("a", 48), strings.Repeat("z", 280)}

// tells tells whether an instruction's lines have this.
func (r row) tells(what string) bool { return slices.Contains(r.has, what) }

// jumps tells whether it goes to a name.
func (r row) jumps() bool { return r.tells("T") }

// line is what is written of an instruction, may it be or not.
func (r row) line(x api.Ins, target string) string {
	s := r.word
	for _, what := range r.has {
		switch what {
		case "A":
			s += " r" + strconv.Itoa(x.A)
		case "B":
			s += " r" + strconv.Itoa(x.B)
		case "C":
			s += " r" + strconv.Itoa(x.C)
		case "N":
			s += " " + strconv.FormatInt(x.N, 10)
		case "T":
			s += " " + target
		}
	}
	return s
}

// plain is an instruction that may be, and where it goes, if it goes anywhere; each of its fields is another number.
func (r row) plain() (api.Ins, string) {
	x, target := api.Ins{Op: r.op}, ""
	if r.tells("A") {
		x.A = 5
	}
	if r.tells("B") {
		x.B = 11
	}
	if r.tells("C") {
		x.C = 3
	}
	if r.tells("N") {
		x.N = -27
	}
	if r.jumps() {
		target = "there_1.x"
	}
	return x, target
}

// may tells whether the fields are what a line may have.
func (r row) may(x api.Ins) bool {
	in := func(what string, n, most int) bool {
		if !r.tells(what) {
			most = 0
		}
		return n >= 0 && n <= most
	}
	if r.tells("N") {
		if x.N < -great || x.N > great {
			return false
		}
	} else if x.N != 0 {
		return false
	}
	return x.Op == r.op && in("A", x.A, r.mostA) && in("B", x.B, 15) && in("C", x.C, 15)
}

// What lines' parts look like, as the chapter tells it.
const (
	nameForm     = `[a-z][a-z0-9_.]{0,23}`
	registerForm = `r(?:[0-9]|1[0-5])`
	lowForm      = `r(?:[0-9]|1[0-3])`
	numberForm   = `-?[0-9]{1,18}`
)

var (
	labelLine = regexp.MustCompile(`^[ \t]*(` + nameForm + `):[ \t]*$`)
	noLine    = regexp.MustCompile(`(?s)^[ \t]*(;.*)?$`)
	rowLines  = makeRowLines()
)

// makeRowLines makes each row's lines' form.
func makeRowLines() []*regexp.Regexp {
	l := []*regexp.Regexp{}
	for _, r := range rows {
		s := `^[ \t]*` + r.word
		for _, what := range r.has {
			switch {
			case what == "N":
				s += ` (` + numberForm + `)`
			case what == "T":
				s += ` (` + nameForm + `)`
			case what == "A" && r.mostA == 13:
				s += ` (` + lowForm + `)`
			default:
				s += ` (` + registerForm + `)`
			}
		}
		l = append(l, regexp.MustCompile(s+`[ \t]*$`))
	}
	return l
}

// read is what Parse should answer, by other means.
func read(line string) (api.Line, bool) {
	if noLine.MatchString(line) {
		return api.Line{}, true
	}
	if m := labelLine.FindStringSubmatch(line); m != nil {
		return api.Line{Label: m[1]}, true
	}
	for i, r := range rows {
		m := rowLines[i].FindStringSubmatch(line)
		if m == nil {
			continue
		}
		l := api.Line{Ins: api.Ins{Op: r.op}}
		for k, what := range r.has {
			part := m[k+1]
			switch what {
			case "A":
				l.Ins.A, _ = strconv.Atoi(part[1:])
			case "B":
				l.Ins.B, _ = strconv.Atoi(part[1:])
			case "C":
				l.Ins.C, _ = strconv.Atoi(part[1:])
			case "N":
				l.Ins.N, _ = strconv.ParseInt(part, 10, 64)
			case "T":
				l.Target = part
			}
		}
		return l, true
	}
	return api.Line{}, false
}

// is tells a fault if a line isn't parsed as l.
func is(t *testing.T, line string, l api.Line) {
	t.Helper()
	if x, err := ins.Parse(line); x != l || err != nil {
		t.Errorf("Parse(%q) = %v, %v; want %v, nil", line, x, err, l)
	}
}

// none tells a fault if a line is parsed, or doesn't come to ErrForm alone.
func none(t *testing.T, line string) {
	t.Helper()
	if x, err := ins.Parse(line); x != (api.Line{}) || err != api.ErrForm {
		t.Errorf("Parse(%q) = %v, %v; want nothing, ErrForm", line, x, err)
	}
}

// held tells a fault if Parse doesn't answer what is read by other means, and tells whether it is a line.
func held(t *testing.T, line string) bool {
	t.Helper()
	l, ok := read(line)
	if ok {
		is(t, line, l)
	} else {
		none(t, line)
	}
	return ok
}

// printed tells a fault if l isn't printed as this line, or that isn't parsed as l.
func printed(t *testing.T, l api.Line, line string) {
	t.Helper()
	if s, err := ins.Print(l); s != line || err != nil {
		t.Errorf("Print(%v) = %q, %v; want %q, nil", l, s, err, line)
	}
	is(t, line, l)
}

// unprinted tells a fault if l is printed, or doesn't come to ErrArg alone.
func unprinted(t *testing.T, l api.Line) {
	t.Helper()
	if s, err := ins.Print(l); s != "" || err != api.ErrArg {
		t.Errorf("Print(%v) = %q, %v; want nothing, ErrArg", l, s, err)
	}
}

// P7.1 and P7.2: a line of each instruction, written out by hand; and the chapter's example.
func TestEachInstruction(t *testing.T) {
	for _, c := range []struct {
		line string
		l    api.Line
	}{
		{"set r1 -25", api.Line{Ins: api.Ins{Op: api.InSet, A: 1, N: -25}}},
		{"mov r2 r3", api.Line{Ins: api.Ins{Op: api.InMov, A: 2, B: 3}}},
		{"add r4 r5 r6", api.Line{Ins: api.Ins{Op: api.InAdd, A: 4, B: 5, C: 6}}},
		{"addi r7 r8 9", api.Line{Ins: api.Ins{Op: api.InAddi, A: 7, B: 8, N: 9}}},
		{"ld r9 r10 0", api.Line{Ins: api.Ins{Op: api.InLd, A: 9, B: 10}}},
		{"st r11 r12 13", api.Line{Ins: api.Ins{Op: api.InSt, A: 11, B: 12, N: 13}}},
		{"cas r5 r8 1", api.Line{Ins: api.Ins{Op: api.InCas, A: 5, B: 8, N: 1}}},
		{"cas r13 r15 -1", api.Line{Ins: api.Ins{Op: api.InCas, A: 13, B: 15, N: -1}}},
		{"jmp there", api.Line{Ins: api.Ins{Op: api.InJmp}, Target: "there"}},
		{"jeq r0 r1 x", api.Line{Ins: api.Ins{Op: api.InJeq, B: 1}, Target: "x"}},
		{"jne r1 r0 a.b", api.Line{Ins: api.Ins{Op: api.InJne, A: 1}, Target: "a.b"}},
		{"jlt r14 r15 a_9", api.Line{Ins: api.Ins{Op: api.InJlt, A: 14, B: 15}, Target: "a_9"}},
		{"call queue.enq", api.Line{Ins: api.Ins{Op: api.InCall}, Target: "queue.enq"}},
		{"ret", api.Line{Ins: api.Ins{Op: api.InRet}}},
		{"park r2", api.Line{Ins: api.Ins{Op: api.InPark, A: 2}}},
		{"unpark r3", api.Line{Ins: api.Ins{Op: api.InUnpark, A: 3}}},
		{"alloc r4 16", api.Line{Ins: api.Ins{Op: api.InAlloc, A: 4, N: 16}}},
		{"self r5", api.Line{Ins: api.Ins{Op: api.InSelf, A: 5}}},
		{"now r6", api.Line{Ins: api.Ins{Op: api.InNow, A: 6}}},
		{"intr r7", api.Line{Ins: api.Ins{Op: api.InIntr, A: 7}}},
		{"setint", api.Line{Ins: api.Ins{Op: api.InSetint}}},
		{"mark 17 r8", api.Line{Ins: api.Ins{Op: api.InMark, A: 8, N: 17}}},
		{"done r9", api.Line{Ins: api.Ins{Op: api.InDone, A: 9}}},
		{"loop:", api.Line{Label: "loop"}},
		{"", api.Line{}},
	} {
		printed(t, c.l, c.line)
		is(t, "\t "+c.line+" \t", c.l)
	}
	for _, r := range rows {
		x, target := r.plain()
		printed(t, api.Line{Ins: x, Target: target}, r.line(x, target))
	}
}

// P7.1: registers are r0 to r15, told in one way, wherever one stands; of cas A up to r13.
func TestRegisters(t *testing.T) {
	wrong := []string{"", "r", "R1", "1", "r-1", "r+1", "r00", "r01", "r07", "r010", "r015", "r16", "r17", "r19", "r20", "r99", "r100", "r150", "r256", "r257", "r4294967296", "r18446744073709551616", "rr1", "r1r", "r1x", "r 1", "r1:", "r1,", "r0x1", "r1.0", "r1_", "x1", "a", "-1", "r１", "r1\x00", "\x00", "r\xff", "r1\r", "r1\n", "r1\t", "\tr1"}
	for _, r := range rows {
		for k, what := range r.has {
			if what == "N" || what == "T" {
				continue
			}
			x, target := r.plain()
			parts := strings.Split(r.line(x, target), " ")
			with := func(part string) string {
				p := slices.Clone(parts)
				p[k+1] = part
				return strings.Join(p, " ")
			}
			for n := range 40 {
				y := x
				switch what {
				case "A":
					y.A = n
				case "B":
					y.B = n
				case "C":
					y.C = n
				}
				line := with("r" + strconv.Itoa(n))
				if n > 15 || what == "A" && n > r.mostA {
					none(t, line)
				} else {
					is(t, line, api.Line{Ins: y, Target: target})
				}
			}
			for _, part := range wrong {
				if k+2 == len(parts) && part == "r1\t" { // behind a line may be tabs
					continue
				}
				none(t, with(part))
			}
		}
	}
	for _, line := range []string{"cas r14 r0 0", "cas r15 r0 0", "cas r16 r0 0", "cas r13 r16 0"} {
		none(t, line)
	}
}

// P7.1: numbers are at most 18 decimal digits, a - ahead of them or not.
func TestNumbers(t *testing.T) {
	right := map[string]int64{
		"0": 0, "-0": 0, "00": 0, "-00": 0, "1": 1, "-1": -1, "7": 7, "9": 9, "10": 10, "-10": -10, "007": 7, "-007": -7, "42": 42, "4096": 4096,
		"2147483648": 1 << 31, "4294967296": 1 << 32, "-4294967297": -1<<32 - 1, "9007199254740993": 1<<53 + 1, "08": 8, "010": 10,
		"999999999999999999": great, "-999999999999999999": -great, "999999999999999998": great - 1, "100000000000000000": 100000000000000000, "123456789012345678": 123456789012345678, "-123456789012345678": -123456789012345678,
		"000000000000000000": 0, "-000000000000000000": 0, "000000000000000001": 1, "-000000000000000019": -19, "012345678901234567": 12345678901234567,
	}
	wrong := []string{"", "-", "--1", "+1", "+", "-+1", "+-1", "1-", "1-1", "- 1", "a", "-a", "x1", "1x", "0x1", "0b1", "0o7", "1e3", "1.0", "1.", ".5", "1_000", "1,0", "r1", "1:", ":", ";", "1;", "１", "1\x00", "\x00", "1\xff", "1\n", "\n1", "1\r", "1\v", "1/", "1\u00a0", "−1",
		"1000000000000000000", "-1000000000000000000", "0000000000000000000", "-0000000000000000000", "0000000000000000001", "0999999999999999999", "9223372036854775807", "-9223372036854775808", "9223372036854775808", "18446744073709551616", "18446744073709551617", strings.Repeat("0", 30), strings.Repeat("9", 400)}
	for _, r := range rows {
		k := slices.Index(r.has, "N")
		if k < 0 {
			continue
		}
		x, target := r.plain()
		parts := strings.Split(r.line(x, target), " ")
		for part, n := range right {
			x.N, parts[k+1] = n, part
			is(t, strings.Join(parts, " "), api.Line{Ins: x})
		}
		for _, part := range wrong {
			parts[k+1] = part
			none(t, strings.Join(parts, " "))
		}
	}
}

// P7.1 and P7.2: names are 1 to 24 letters, digits, _ and points, a letter first, as labels and wherever an instruction goes to.
func TestNames(t *testing.T) {
	for _, name := range names {
		printed(t, api.Line{Label: name}, name+":")
	}
	for _, name := range noNames {
		if name != "" && strings.Trim(name, " \t") == name && name[0] != ';' {
			none(t, name+":")
		}
		if name != "" {
			unprinted(t, api.Line{Label: name})
		}
	}
	for _, r := range rows {
		if !r.jumps() {
			continue
		}
		x, _ := r.plain()
		for _, name := range names {
			printed(t, api.Line{Ins: x, Target: name}, r.line(x, name))
		}
		for _, name := range noNames {
			if name == "" || strings.TrimRight(name, " \t") == name {
				none(t, r.line(x, name))
			}
			unprinted(t, api.Line{Ins: x, Target: name})
		}
	}
}

// P7.1 and P7.2: each byte as a name's first one and as one behind it; each length.
func TestAllBytesOfNames(t *testing.T) {
	const letters, others = "abcdefghijklmnopqrstuvwxyz", "0123456789_."
	jump := api.Ins{Op: api.InJmp}
	tell := func(name string, ok bool) {
		t.Helper()
		if ok {
			printed(t, api.Line{Label: name}, name+":")
			printed(t, api.Line{Ins: jump, Target: name}, "jmp "+name)
		} else {
			held(t, name+":")
			held(t, "jmp "+name)
			unprinted(t, api.Line{Label: name})
			unprinted(t, api.Line{Ins: jump, Target: name})
		}
	}
	for c := range 256 {
		b := string([]byte{byte(c)})
		first, behind := strings.Contains(letters, b), strings.Contains(letters+others, b)
		tell(b, first)
		tell(b+"a", first)
		for _, at := range []int{1, 2, 12, 23} {
			tell(strings.Repeat("q", at)+b, behind)
			tell(strings.Repeat("q", at)+b+strings.Repeat("z", 23-at), behind)
		}
	}
	for n := 1; n <= 60; n++ {
		tell(strings.Repeat("k", n), n <= 24)
		tell("k"+strings.Repeat("9", n-1), n <= 24)
		tell("k"+strings.Repeat(".", n-1), n <= 24)
	}
}

// P7.1: spaces and tabs may be ahead and behind; between parts is one space, and nothing else.
func TestSpaces(t *testing.T) {
	around := []string{"", " ", "\t", "  ", "\t\t", " \t", "\t ", " \t \t  ", strings.Repeat(" ", 100), strings.Repeat("\t", 100)}
	between := []string{"", "  ", "\t", " \t", "\t ", "   ", "\n", "\r", ",", ", ", "\u00a0", "\v", "\x00"}
	for _, r := range rows {
		x, target := r.plain()
		line := r.line(x, target)
		for _, ahead := range around {
			for _, behind := range around {
				is(t, ahead+line+behind, api.Line{Ins: x, Target: target})
			}
		}
		parts := strings.Split(line, " ")
		for k := 1; k < len(parts); k++ {
			for _, b := range between {
				none(t, strings.Join(parts[:k], " ")+b+strings.Join(parts[k:], " "))
			}
		}
	}
	for _, ahead := range around {
		for _, behind := range around {
			is(t, ahead+"a.b:"+behind, api.Line{Label: "a.b"})
			is(t, ahead+behind, api.Line{})
			is(t, ahead+";"+behind, api.Line{})
			is(t, ahead+"; ret"+behind, api.Line{})
		}
	}
}

// P7.1: each byte ahead of lines, behind them, and amid them.
func TestAllBytesAroundLines(t *testing.T) {
	lines := []string{"", "a:", "a.b:", ";", "; x"}
	for _, r := range rows {
		x, target := r.plain()
		lines = append(lines, r.line(x, target))
	}
	for _, line := range lines {
		for c := range 256 {
			b := string([]byte{byte(c)})
			for at := range len(line) + 1 {
				held(t, line[:at]+b+line[at:])
				if at < len(line) {
					held(t, line[:at]+b+line[at+1:])
				}
			}
		}
		for at := range line {
			held(t, line[:at]+line[at+1:])
			held(t, line[:at])
			held(t, line[at:])
		}
	}
}

// P7.1: what is neither a label nor an instruction.
func TestNeither(t *testing.T) {
	for _, line := range []string{"", " ", "\t", " \t \t", ";", ";;", ";x", "; x", " ;x", "\t; ret", ";ret", "; a:", ";a:", ";a b c d e f", ";\x00\xff", ";é", "; x\r", "; x \t", ";" + strings.Repeat("x", 1000)} {
		is(t, line, api.Line{})
	}
	for _, line := range []string{"\n", "\r", "\r\n", "\v", "\f", "\x00", "\u00a0", "\u2003", "#", "# x", "// x", "/", ":;", "x;", "ret;", "ret ;", "ret ; x", "a:;", "a: ;", "a: ; x", "set r1 1 ; x", "jmp a;", "jmp a ;x"} {
		none(t, line)
	}
}

// P7.1: what looks like lines, and isn't.
func TestNoLines(t *testing.T) {
	for _, line := range []string{
		":", "::", "a::", ":a", "a :", "a b:", "a: b:", "a:b", "a:b:", "a: ret", "a:ret", "ret a:", "ret:ret", "1:", "a", "a.b", "r1", "1", "-1", "x y", "nop", "halt", "sett", "se", "s", "t", "sub r1 r2 r3",
		"SET r1 1", "Set r1 1", "RET", "Ret", "rets", "ret:x", "ret 1", "ret r1", "ret x", "ret ret", "setint r1", "setint 1", "setint setint",
		"set", "set r1", "set 1", "set 1 r1", "set r1 r2", "set r1 x", "set r1 1 1", "set r1 1 r1", "mov", "mov r1", "mov r1 1", "mov 1 r1", "mov r1 r2 r3", "mov r1 x", "mov r1 r2 0",
		"add", "add r1", "add r1 r2", "add r1 r2 3", "add r1 2 r3", "add 1 r2 r3", "add r1 r2 r3 r4", "add r1 r2 r3 4", "add r1 r2 r3 r4 r5 r6", "addi r1 r2", "addi r1 r2 r3", "addi r1 2 3", "addi r1 2", "addi r1 r2 3 4", "addi 3 r1 r2",
		"ld r1 r2", "ld r1", "ld", "ld r1 r2 r3", "ld r1 r2 0 0", "ld r1 0", "ld r1 0 r2", "ld r1 x 0", "st r1 r2", "st r1 r2 r3", "st 1 r2 3", "st r1 r2 3 4", "cas r1 r2", "cas r1 r2 r3", "cas r1 r2 r3 r4", "cas r1 r2 3 4", "cas r1 2 3",
		"jmp", "jmp r1 a", "jmp a b", "jmp 1", "jmp 1a", "jmp a:", "jmp: a", "jmp A", "jmp -1", "jmp _a", "jmp .a", "jeq", "jeq a", "jeq r1 a", "jeq r1 r2", "jeq r1 r2 5", "jeq r1 r2 a b", "jeq r1 2 a", "jeq a r1 r2", "jne r1 r2", "jne r1 a", "jne r1 r2 1a", "jlt r1 r2", "jlt a", "jlt r1 r2 r3 a", "jgt r1 r2 a", "jle r1 r2 a",
		"call", "call 1", "call r1 a", "call a b", "call a 1", "park", "park 1", "park r1 r2", "park r1 1", "park x", "unpark", "unpark 1", "unpark r1 1", "alloc", "alloc r1", "alloc 1", "alloc 1 r1", "alloc r1 r2", "alloc r1 1 1",
		"self", "self 1", "self r1 r2", "self x", "now", "now 1", "now r1 1", "intr", "intr 1", "intr r1 r2", "mark", "mark 1", "mark r1", "mark r1 1", "mark 1 1", "mark r1 r1", "mark 1 r1 1", "mark 1 r1 r1", "mark x r1", "done", "done 1", "done r1 r2", "done x", "done r1 1",
		"ret\nret", "a:\n", "\na:", "ret\n", "\nret", "ret\r", "ret\x00", "\ufeffret", "set\u00a0r1 1", "set r1\v1",
	} {
		none(t, line)
		none(t, " "+line)
		none(t, line+"\t")
	}
}

// P7.1: words go by themselves: no word is taken for another one with the same beginning, or with more behind it.
func TestWords(t *testing.T) {
	for _, r := range rows {
		x, target := r.plain()
		rest := strings.TrimPrefix(r.line(x, target), r.word)
		for n := range len(r.word) {
			held(t, r.word[:n]+rest)
			held(t, r.word[n:]+rest)
		}
		for c := range 256 {
			held(t, r.word+string([]byte{byte(c)})+rest)
			held(t, string([]byte{byte(c)})+r.word+rest)
		}
		none(t, strings.ToUpper(r.word)+rest)
		none(t, strings.ToUpper(r.word[:1])+r.word[1:]+rest)
		for _, other := range rows {
			held(t, other.word+rest)
			held(t, other.word+" "+r.word+rest)
		}
		printed(t, api.Line{Label: r.word}, r.word+":")
		printed(t, api.Line{Ins: api.Ins{Op: api.InCall}, Target: r.word}, "call "+r.word)
	}
}

// P7.2: fields that are out of what a line may have, or count for nothing in it, aren't printed; N of one that goes to a name neither, though it may be.
func TestFields(t *testing.T) {
	for _, r := range rows {
		plain, target := r.plain()
		tell := func(x api.Ins) {
			t.Helper()
			l := api.Line{Ins: x, Target: target}
			if r.may(x) {
				printed(t, l, r.line(x, target))
			} else {
				unprinted(t, l)
			}
			if r.jumps() {
				x.N = 0
			}
			if may := r.may(x); ins.May(l.Ins) != may {
				t.Errorf("May(%v) = %v, want %v", l.Ins, !may, may)
			}
		}
		for _, n := range ends {
			x := plain
			x.A = n
			tell(x)
			x = plain
			x.B = n
			tell(x)
			x = plain
			x.C = n
			tell(x)
			tell(api.Ins{Op: r.op, A: n, B: n, C: n})
			tell(api.Ins{Op: r.op, A: n})
			tell(api.Ins{Op: r.op, B: n})
			tell(api.Ins{Op: r.op, C: n})
		}
		for _, n := range numbers {
			x := plain
			x.N = n
			tell(x)
			tell(api.Ins{Op: r.op, N: n})
			tell(api.Ins{Op: r.op, A: 14, N: n})
			tell(api.Ins{Op: r.op, A: -1, N: n})
			tell(api.Ins{Op: r.op, B: 16, N: n})
		}
	}
}

// P7.2: all that three registers may be, and beside it, of each instruction.
func TestAllRegisters(t *testing.T) {
	for _, r := range rows {
		_, target := r.plain()
		for a := -1; a <= 17; a++ {
			for b := -1; b <= 17; b++ {
				for c := -1; c <= 17; c++ {
					x := api.Ins{Op: r.op, A: a, B: b, C: c}
					l := api.Line{Ins: x, Target: target}
					may := r.may(x)
					if ins.May(x) != may {
						t.Fatalf("May(%v) = %v, want %v", x, !may, may)
					}
					if may {
						printed(t, l, r.line(x, target))
					} else if s, err := ins.Print(l); s != "" || err != api.ErrArg {
						t.Fatalf("Print(%v) = %q, %v; want nothing, ErrArg", l, s, err)
					}
				}
			}
		}
	}
}

// P7.2: a line is a label, or an instruction, or neither; what is more than one of these isn't printed, nor what isn't whole.
func TestNoMixedLines(t *testing.T) {
	for _, r := range rows {
		x, target := r.plain()
		for _, name := range []string{"a", "there", r.word, "A", " ", ";", "abcdefghijklmnopqrstuvwxy"} {
			unprinted(t, api.Line{Label: name, Ins: x, Target: target})
			if r.jumps() {
				unprinted(t, api.Line{Ins: x})
				unprinted(t, api.Line{Label: name, Ins: x})
			} else {
				unprinted(t, api.Line{Ins: x, Target: name})
				unprinted(t, api.Line{Ins: api.Ins{Op: r.op}, Target: name})
			}
		}
	}
	for _, name := range names {
		unprinted(t, api.Line{Target: name})
		unprinted(t, api.Line{Label: name, Target: name})
		for _, x := range []api.Ins{{A: 1}, {B: 1}, {C: 1}, {N: 1}, {A: -1}, {N: -1}, {Op: -1}, {Op: 23}, {Op: api.InRet}} {
			unprinted(t, api.Line{Label: name, Ins: x})
		}
	}
	for _, name := range noNames {
		if name != "" {
			unprinted(t, api.Line{Target: name})
			unprinted(t, api.Line{Label: name, Target: "a"})
		}
	}
	printed(t, api.Line{}, "")
}

// P7.2: numbers of no instruction.
func TestNoInstructions(t *testing.T) {
	for _, op := range noOps {
		for _, x := range []api.Ins{{Op: op}, {Op: op, A: 1}, {Op: op, B: 1}, {Op: op, C: 1}, {Op: op, N: 1}, {Op: op, A: 1, B: 2, C: 3, N: 4}, {Op: op, A: math.MinInt, B: math.MaxInt, N: math.MinInt64}} {
			if ins.May(x) || ins.Access(x) {
				t.Errorf("%v: May %v, Access %v; want false, false", x, ins.May(x), ins.Access(x))
			}
			if x != (api.Ins{}) {
				unprinted(t, api.Line{Ins: x})
			}
			unprinted(t, api.Line{Ins: x, Target: "a"})
		}
	}
}

// P7.2: accesses are of three instructions, whatever their fields are.
func TestAccess(t *testing.T) {
	for _, r := range rows {
		want := r.word == "ld" || r.word == "st" || r.word == "cas"
		plain, _ := r.plain()
		for _, x := range []api.Ins{plain, {Op: r.op}, {Op: r.op, A: -1, B: 99, C: 5, N: math.MinInt64}, {Op: r.op, A: 14}, {Op: r.op, N: math.MaxInt64}} {
			if ins.Access(x) != want {
				t.Errorf("Access(%v) = %v, want %v", x, !want, want)
			}
		}
	}
	for _, r := range rows {
		x, target := r.plain()
		l, err := ins.Parse(r.line(x, target))
		if err != nil || ins.Access(l.Ins) != slices.Contains([]string{"ld", "st", "cas"}, r.word) || !ins.May(l.Ins) {
			t.Errorf("%s: %v, %v; Access %v, May %v", r.word, l, err, ins.Access(l.Ins), ins.May(l.Ins))
		}
	}
}

// P7.2: of one that goes to a name N may be any number; of others what a line tells.
func TestMay(t *testing.T) {
	for _, r := range rows {
		plain, _ := r.plain()
		for _, n := range numbers {
			x := plain
			x.N = n
			want := r.jumps() || r.tells("N") && n >= -great && n <= great || n == 0
			if ins.May(x) != want {
				t.Errorf("May(%v) = %v, want %v", x, !want, want)
			}
		}
	}
	for _, x := range []api.Ins{{}, {N: 5}, {Op: api.InJmp, A: 1}, {Op: api.InJmp, B: 1, N: 5}, {Op: api.InCall, C: 1, N: 5}, {Op: api.InJeq, A: 16, N: 5}, {Op: api.InJne, B: -1, N: 5}, {Op: api.InJlt, C: 1, N: 5}, {Op: api.InCas, A: 14}, {Op: api.InRet, A: 1}, {Op: api.InSetint, N: 1}} {
		if ins.May(x) {
			t.Errorf("May(%v) = true, want false", x)
		}
	}
}

// P7.2 and P7.4: a line that has more around it, or more zeros than it needs, is printed without them.
func TestPrintOfWhatWasParsed(t *testing.T) {
	for line, want := range map[string]string{
		" set r0 007\t": "set r0 7", "set r0 -0": "set r0 0", "set r0 -000000000000000012": "set r0 -12", "\tmark 00 r3": "mark 0 r3", "alloc r1 000000000000000016": "alloc r1 16",
		"\t x: ": "x:", "  ": "", "; a remark": "", "\t;": "", "  jlt r1 r15 to_1  ": "jlt r1 r15 to_1", "ret ": "ret", "cas r13 r15 -01": "cas r13 r15 -1",
	} {
		l, err := ins.Parse(line)
		if err != nil {
			t.Errorf("Parse(%q): %v", line, err)
			continue
		}
		printed(t, l, want)
	}
}

// rand is a row of numbers, the same each time.
type rand uint64

// next is one of 0 to n - 1.
func (r *rand) next(n int) int {
	*r = *r*6364136223846793005 + 1442695040888963407
	return int(uint64(*r) >> 33 % uint64(n))
}

// pick is one of a list.
func pick[T any](r *rand, l []T) T { return l[r.next(len(l))] }

// P7.1, and P1 at many texts: lines of parts that fit or don't, in any order, held against what is read by other means.
func TestManyLines(t *testing.T) {
	r := rand(1)
	parts := []string{"r0", "r9", "r13", "r14", "r15", "r16", "r01", "0", "1", "-1", "-", "999999999999999999", "1000000000000000000", "007", "a", "a.b", "loop_1", "A", "a:", ":", ";", "", "x y", "\t"}
	good, bad := 0, 0
	for range 200000 {
		w := pick(&r, rows)
		line := w.word
		for _, what := range w.has {
			if r.next(8) == 0 {
				line += " " + pick(&r, parts)
				continue
			}
			switch what {
			case "N":
				line += " " + strconv.Itoa(r.next(2000)-1000)
			case "T":
				line += " " + pick(&r, names)
			default:
				line += " r" + strconv.Itoa(r.next(17))
			}
		}
		if r.next(16) == 0 {
			line += " " + pick(&r, parts)
		}
		if r.next(16) == 0 {
			line = pick(&r, parts) + " " + line
		}
		if r.next(8) == 0 && line != "" {
			at := r.next(len(line))
			line = line[:at] + string([]byte{byte(r.next(256))}) + line[at+r.next(2):]
		}
		if held(t, line) {
			good++
		} else {
			bad++
		}
		if t.Failed() {
			return
		}
	}
	if good < 40000 || bad < 40000 {
		t.Errorf("%d lines and %d that are none tell too little", good, bad)
	}
}

// P7.2 and P7.4, at many lines that may be or not: they are printed if, and only if, what is written of them is read as them.
func TestManyPrints(t *testing.T) {
	r := rand(2)
	few := []int{-1, 0, 0, 0, 0, 1, 5, 13, 14, 15, 16}
	some := []int64{0, 0, 0, 0, 1, -1, 12, great, -great, great + 1, -great - 1, math.MinInt64, math.MaxInt64}
	texts := []string{"", "", "", "", "", "a", "a.b", "A", " a", "a ", "a:", ";a", "9", "ret", "set r1 1", "a\n"}
	good, bad := 0, 0
	for range 200000 {
		l := api.Line{Label: pick(&r, texts), Target: pick(&r, texts)}
		if r.next(4) > 0 {
			l = api.Line{Ins: api.Ins{Op: r.next(24) - 1, A: pick(&r, few), B: pick(&r, few), C: pick(&r, few), N: pick(&r, some)}, Target: l.Target}
		}
		if r.next(4) > 0 && l.Ins.Op > 0 && l.Ins.Op < 23 {
			x, target := rows[l.Ins.Op-1].plain()
			x.A = pick(&r, few)
			l.Ins, l.Target = x, target
		}
		line := l.Label + ":"
		if l.Label == "" {
			line = ""
		}
		if l.Ins.Op > 0 && l.Ins.Op < 23 {
			line = rows[l.Ins.Op-1].line(l.Ins, l.Target)
		}
		if x, ok := read(line); ok && x == l {
			good++
			printed(t, l, line)
		} else {
			bad++
			unprinted(t, l)
		}
		if t.Failed() {
			return
		}
	}
	if good < 40000 || bad < 40000 {
		t.Errorf("%d lines and %d that are none tell too little", good, bad)
	}
}

// P7.3: what a call answers hangs on its arguments alone, whatever was asked ahead of it.
func TestNothingIsKept(t *testing.T) {
	calls := []func(){
		func() { _, _ = ins.Parse("jlt r1 r2 elsewhere") },
		func() { _, _ = ins.Parse("set r16 1") },
		func() { _, _ = ins.Parse("x:") },
		func() { _, _ = ins.Parse("") },
		func() { _, _ = ins.Print(api.Line{Ins: api.Ins{Op: api.InAdd, A: 7, B: 8, C: 9}}) },
		func() { _, _ = ins.Print(api.Line{Label: "X"}) },
		func() { ins.May(api.Ins{Op: api.InCas, A: 13}) },
		func() { ins.May(api.Ins{Op: -1}) },
		func() { ins.Access(api.Ins{Op: api.InSt}) },
	}
	for range 3 {
		for _, call := range calls {
			call()
			printed(t, api.Line{Ins: api.Ins{Op: api.InSet, N: 5}}, "set r0 5")
			printed(t, api.Line{Ins: api.Ins{Op: api.InCall}, Target: "a"}, "call a")
			printed(t, api.Line{Label: "b"}, "b:")
			printed(t, api.Line{}, "")
			none(t, "set r0")
			unprinted(t, api.Line{Ins: api.Ins{Op: api.InRet}, Target: "a"})
			if ins.May(api.Ins{Op: api.InCas, A: 14}) || !ins.May(api.Ins{Op: api.InRet}) || ins.Access(api.Ins{Op: api.InAlloc}) || !ins.Access(api.Ins{Op: api.InLd}) {
				t.Error("what may be, or is an access, hangs on an earlier call")
			}
		}
	}
}

// P7.3: a name that is told has memory of its own, so that no line is kept by it.
func TestNamesAreNewMemory(t *testing.T) {
	within := func(part, whole string) bool {
		from := uintptr(unsafe.Pointer(unsafe.StringData(whole)))
		at := uintptr(unsafe.Pointer(unsafe.StringData(part)))
		return at >= from && at < from+uintptr(len(whole))
	}
	for _, line := range []string{"there:", "\tthere: ", "jmp there", " jeq r1 r2 there "} {
		given := strings.Clone(line)
		l, err := ins.Parse(given)
		if err != nil || l.Label+l.Target != "there" {
			t.Fatalf("Parse(%q) = %v, %v", given, l, err)
		}
		if within(l.Label, given) || within(l.Target, given) {
			t.Errorf("Parse(%q): what it tells shares memory with the line", given)
		}
		if s, err := ins.Print(l); err != nil || l.Target != "" && within(s, l.Target) || l.Label != "" && within(s, l.Label) {
			t.Errorf("Print(%v) = %q, %v: it shares memory with what was handed in", l, s, err)
		}
		if given != line {
			t.Errorf("Parse changed %q to %q", line, given)
		}
	}
}

// P7.4: what was printed is parsed as it was, of all numbers of few digits and of each power of two and of ten.
func TestPrintedNumbersAreParsed(t *testing.T) {
	l := []int64{}
	for n := int64(-1100); n <= 1100; n++ {
		l = append(l, n)
	}
	for i := range 60 {
		for d := int64(-1); d <= 1; d++ {
			l = append(l, 1<<i+d, -1<<i+d)
		}
	}
	for n := int64(1); n <= great; n *= 10 {
		l = append(l, n-1, n, n+1, -n-1, -n, -n+1, 9*(n/10), -7*(n/10))
	}
	for _, r := range rows {
		if !r.tells("N") {
			continue
		}
		x, _ := r.plain()
		for _, n := range l {
			if n >= -great && n <= great {
				x.N = n
				printed(t, api.Line{Ins: x}, r.line(x, ""))
			}
		}
	}
}

// P1: texts that are long end, too, as what they are.
func TestLongLines(t *testing.T) {
	const long = 1 << 22
	is(t, strings.Repeat(" ", long), api.Line{})
	is(t, ";"+strings.Repeat("x ", long), api.Line{})
	is(t, strings.Repeat("\t ", long)+"ret"+strings.Repeat(" \t", long), api.Line{Ins: api.Ins{Op: api.InRet}})
	for _, line := range []string{
		strings.Repeat("a", long), strings.Repeat("a", long) + ":", "a" + strings.Repeat(":", long), strings.Repeat("a ", long), "ret" + strings.Repeat(" ", long) + "1",
		"jmp " + strings.Repeat("a", long), "set r0 " + strings.Repeat("1", long), "set r0 " + strings.Repeat("-", long), "set r" + strings.Repeat("0", long) + " 1", "add" + strings.Repeat(" r1", long),
	} {
		if l, err := ins.Parse(line); l != (api.Line{}) || err != api.ErrForm {
			t.Errorf("Parse(%q ..) = %v, %v; want nothing, ErrForm", line[:20], l, err)
		}
	}
	for _, l := range []api.Line{{Label: strings.Repeat("a", long)}, {Ins: api.Ins{Op: api.InJmp}, Target: strings.Repeat("a", long)}, {Target: strings.Repeat(" ", long)}} {
		if s, err := ins.Print(l); s != "" || err != api.ErrArg {
			t.Errorf("Print of a long name: %d bytes, %v; want none, ErrArg", len(s), err)
		}
	}
}
