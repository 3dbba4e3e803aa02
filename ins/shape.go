package ins

import (
	"strings"

	"thole/api"
)

// shape is how lines of an instruction look: its word, and what it has behind it, a letter each: the registers A, B and C, the number N, and T, the name that it goes to. So many registers behind A are its own, too.
type shape struct {
	word, has string
	behind    int
}

// shapes are those of all instructions, each at its number.
var shapes = [...]shape{
	api.InSet:    {word: "set", has: "AN"},
	api.InMov:    {word: "mov", has: "AB"},
	api.InAdd:    {word: "add", has: "ABC"},
	api.InAddi:   {word: "addi", has: "ABN"},
	api.InLd:     {word: "ld", has: "ABN"},
	api.InSt:     {word: "st", has: "ABN"},
	api.InCas:    {word: "cas", has: "ABN", behind: 2},
	api.InJmp:    {word: "jmp", has: "T"},
	api.InJeq:    {word: "jeq", has: "ABT"},
	api.InJne:    {word: "jne", has: "ABT"},
	api.InJlt:    {word: "jlt", has: "ABT"},
	api.InCall:   {word: "call", has: "T"},
	api.InRet:    {word: "ret"},
	api.InPark:   {word: "park", has: "A"},
	api.InUnpark: {word: "unpark", has: "A"},
	api.InAlloc:  {word: "alloc", has: "AN"},
	api.InSelf:   {word: "self", has: "A"},
	api.InNow:    {word: "now", has: "A"},
	api.InIntr:   {word: "intr", has: "A"},
	api.InSetint: {word: "setint"},
	api.InMark:   {word: "mark", has: "NA"},
	api.InDone:   {word: "done", has: "A"},
}

// mostParts is how many parts a line has at most: a word, and three things.
const mostParts = 4

// mostDigits is how many digits a number has at most, and mostNumber the greatest one of these.
const (
	mostDigits = 18
	mostNumber = 999_999_999_999_999_999
)

// mostLetters is how long a name is at most.
const mostLetters = 24

// shapeOf is the shape of an instruction, if there is such a one.
func shapeOf(op int) (shape, bool) {
	if op < api.InSet || op > api.InDone {
		return shape{}, false
	}
	return shapes[op], true
}

// opOf is the instruction of a word, or 0.
func opOf(word string) int {
	for op, s := range shapes {
		if s.word == word {
			return op
		}
	}
	return 0
}

// tells tells whether lines have the thing of this letter.
func (s shape) tells(letter byte) bool { return strings.IndexByte(s.has, letter) >= 0 }

// goes tells whether it is of one that goes to a name.
func (s shape) goes() bool { return s.tells('T') }

// fits tells whether a line has all that the fields are: what may be there, and 0 where the line has nothing.
func (s shape) fits(x api.Ins) bool {
	return s.register('A', x.A, s.behind) && s.register('B', x.B, 0) && s.register('C', x.C, 0) && s.number(x.N)
}

// register tells whether the field of this letter may be n, with so many registers behind it.
func (s shape) register(letter byte, n, behind int) bool {
	if s.tells(letter) {
		return n >= 0 && n < api.Regs-behind
	}
	return n == 0
}

// number tells whether N may be n.
func (s shape) number(n int64) bool {
	if s.tells('N') {
		return n >= -mostNumber && n <= mostNumber
	}
	return n == 0
}

// leads tells whether a line has this as where it goes: a name, or nothing.
func (s shape) leads(target string) bool {
	if s.goes() {
		return isName(target)
	}
	return target == ""
}

// isName tells whether a text is a name.
func isName(text string) bool {
	if text == "" || len(text) > mostLetters || !isLetter(text[0]) {
		return false
	}
	for i := range len(text) {
		if c := text[i]; !isLetter(c) && !isDigit(c) && c != '_' && c != '.' {
			return false
		}
	}
	return true
}

// isLetter tells whether it is one that names have.
func isLetter(c byte) bool { return c >= 'a' && c <= 'z' }

// isDigit tells whether it is a decimal digit.
func isDigit(c byte) bool { return c >= '0' && c <= '9' }
