package asm

import (
	"thole/api"
	"thole/ins"
)

// builder is what came of the lines so far: code and labels, where each name stands, the instructions that go to names, and how many lines there were.
type builder struct {
	code   []api.Ins
	labels []api.Label
	places map[string]int
	jumps  []jump
	lines  int
}

// jump is an instruction that goes to a name: its place in the code, and its line.
type jump struct {
	at, line int
	name     string
}

// add takes the next line.
func (b *builder) add(line string) error {
	l, err := ins.Parse(line)
	if err != nil {
		return spot(b.lines, api.ErrForm)
	}
	if l.Label != "" {
		err = b.addLabel(l.Label)
	} else if l.Ins.Op != 0 {
		err = b.addIns(l)
	}
	b.lines++
	return err
}

// addLabel takes the line of a label.
func (b *builder) addLabel(name string) error {
	if _, ok := b.places[name]; ok {
		return spot(b.lines, api.ErrTwice)
	}
	at := len(b.code)
	b.places[name] = at
	b.labels = append(b.labels, api.Label{Name: name, At: at})
	return nil
}

// addIns takes the line of an instruction.
func (b *builder) addIns(l api.Line) error {
	at := len(b.code)
	if at == api.MaxCode {
		return spot(b.lines, api.ErrLarge)
	}
	if l.Target != "" {
		b.jumps = append(b.jumps, jump{at: at, line: b.lines, name: l.Target})
	}
	b.code = append(b.code, l.Ins)
	return nil
}

// link gives the instructions that go to names the places of these. A label may stand behind those that go to it, so this comes when all lines are taken.
func (b *builder) link() error {
	for _, j := range b.jumps {
		at, ok := b.places[j.name]
		if !ok {
			return spot(j.line, api.ErrNone)
		}
		b.code[j.at].N = int64(at)
	}
	return nil
}

// spot is an error at a line.
func spot(line int, code api.Code) error { return &api.Spot{At: line, Err: code} }
