package queue_test

import (
	"slices"
	"strings"
	"testing"

	"thole/asm"
	"thole/cond"
	"thole/ins"
	"thole/latch"
	"thole/lock"
	"thole/queue"
	"thole/rwlock"
	"thole/sema"
	"thole/swap"
)

// routines are the labels that the chapter lists.
var routines = []string{"queue.enq", "queue.cancel", "queue.unps", "queue.rel", "queue.share", "queue.pred", "queue.try", "queue.acq", "queue.again"}

// tries are the labels of chapters 13 to 16 that the text may go to.
var tries = []string{"lock.try", "lock.tryfair", "sema.try", "sema.tryfair", "latch.try", "rw.trywrite", "rw.trywritefair", "rw.tryread", "rw.tryreadfair"}

// stubs is a text of these labels, each with nothing but a ret.
func stubs(names ...string) string { return strings.Join(names, ":\nret\n") + ":\nret" }

// P12.1: the text has the chapter's labels, and goes to its own and to the tries alone.
func TestCode(t *testing.T) {
	code, labels, err := asm.Assemble(queue.Code(), stubs(tries...))
	if err != nil {
		t.Fatal(err)
	}
	for _, name := range routines {
		if at := asm.Find(labels, name); at < 0 || at >= len(code) {
			t.Errorf("%s is at %d of %d instructions", name, at, len(code))
		}
	}
	for _, l := range labels {
		if !strings.HasPrefix(l.Name, "queue.") && !slices.Contains(tries, l.Name) {
			t.Errorf("the label %s is another layer's", l.Name)
		}
	}
}

// P12.1: it goes to each of the tries, so without one of them it isn't code.
func TestCodeGoesToTries(t *testing.T) {
	for i := range tries {
		if _, _, err := asm.Assemble(queue.Code(), stubs(slices.Delete(slices.Clone(tries), i, i+1)...)); err == nil {
			t.Errorf("the text never goes to %s", tries[i])
		}
	}
}

// P12.1: with all texts of layers 12 to 18 it is code. A try that isn't built yet is taken for a stub.
func TestAllTexts(t *testing.T) {
	texts := []string{queue.Code(), lock.Code(), sema.Code(), latch.Code(), rwlock.Code(), cond.Code(), swap.Code()}
	has := map[string]int{}
	for _, line := range strings.Split(strings.Join(texts, "\n"), "\n") {
		if l, err := ins.Parse(line); err == nil {
			has[l.Label]++
		}
	}
	for _, name := range tries {
		if has[name] == 0 {
			texts = append(texts, stubs(name))
		}
	}
	if _, _, err := asm.Assemble(texts...); err != nil {
		t.Error(err)
	}
}

// P1: it is the same text at each call.
func TestCodeIsTheSame(t *testing.T) {
	if queue.Code() != queue.Code() || queue.Code() == "" {
		t.Error("the text isn't the same at each call")
	}
}
