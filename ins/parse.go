package ins

import (
	"strconv"
	"strings"

	"thole/api"
)

// parseLabel reads a line of a label, if it is one.
func parseLabel(text string) (api.Line, bool) {
	name, ok := parseName(strings.TrimSuffix(text, ":"))
	return api.Line{Label: name}, ok
}

// parseInstruction reads a line of an instruction, if it is one.
func parseInstruction(text string) (api.Line, bool) {
	// What is left over stays in the last part, and makes it none.
	parts := strings.SplitN(text, " ", mostParts)
	op := opOf(parts[0])
	s, ok := shapeOf(op)
	if !ok || len(parts) != 1+len(s.has) {
		return api.Line{}, false
	}
	l := api.Line{Ins: api.Ins{Op: op}}
	for i, part := range parts[1:] {
		if !take(&l, s.has[i], part) {
			return api.Line{}, false
		}
	}
	return l, s.fits(l.Ins)
}

// take reads a part as the thing of this letter, and tells whether it is one.
func take(l *api.Line, letter byte, part string) bool {
	ok := false
	switch letter {
	case 'A':
		l.Ins.A, ok = parseRegister(part)
	case 'B':
		l.Ins.B, ok = parseRegister(part)
	case 'C':
		l.Ins.C, ok = parseRegister(part)
	case 'N':
		l.Ins.N, ok = parseNumber(part)
	case 'T':
		l.Target, ok = parseName(part)
	}
	return ok
}

// parseName is a name, if the part is one, in memory of its own.
func parseName(part string) (string, bool) {
	if !isName(part) {
		return "", false
	}
	return strings.Clone(part), true
}

// parseRegister is a register's number, if the part tells one, in the only way in which it is told.
func parseRegister(part string) (int, bool) {
	for n := range api.Regs {
		if part == printRegister(n) {
			return n, true
		}
	}
	return 0, false
}

// parseNumber is a number, if the part is one. It may have more zeros ahead than it needs.
func parseNumber(part string) (int64, bool) {
	digits := strings.TrimPrefix(part, "-")
	if len(digits) > mostDigits {
		return 0, false
	}
	for i := range len(digits) {
		if !isDigit(digits[i]) {
			return 0, false
		}
	}
	n, err := strconv.ParseInt(part, 10, 64)
	return n, err == nil
}
