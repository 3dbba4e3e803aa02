package ins

import (
	"strconv"
	"strings"

	"thole/api"
)

// print writes a line that has what this shape asks for.
func (s shape) print(l api.Line) string {
	parts := []string{s.word}
	for i := range len(s.has) {
		parts = append(parts, printPart(l, s.has[i]))
	}
	return strings.Join(parts, " ")
}

// printPart writes the thing of this letter.
func printPart(l api.Line, letter byte) string {
	switch letter {
	case 'A':
		return printRegister(l.Ins.A)
	case 'B':
		return printRegister(l.Ins.B)
	case 'C':
		return printRegister(l.Ins.C)
	case 'N':
		return strconv.FormatInt(l.Ins.N, 10)
	}
	return l.Target
}

// printRegister writes a register.
func printRegister(n int) string { return "r" + strconv.Itoa(n) }
