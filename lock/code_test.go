package lock_test

import (
	"strings"
	"testing"

	"thole/asm"
	"thole/lock"
	"thole/queue"
)

// labels are those that the chapter has.
var labels = []string{"lock.try", "lock.tryfair", "lock.free", "op.lock", "op.try", "op.unlock"}

// below are the queue's routines: besides its own labels the text may go to these alone.
var below = []string{"queue.enq", "queue.cancel", "queue.unps", "queue.rel", "queue.share", "queue.pred", "queue.try", "queue.acq", "queue.again"}

// P13.1: the text has the chapter's labels, each of an instruction, and goes to nothing but its own and the queue's.
func TestCode(t *testing.T) {
	code, l, err := asm.Assemble(lock.Code(), strings.Join(below, ":\nret\n")+":\nret")
	if err != nil {
		t.Fatal(err)
	}
	for _, name := range labels {
		if at := asm.Find(l, name); at < 0 || at >= len(code)-len(below) {
			t.Errorf("%s is at %d of %d instructions", name, at, len(code)-len(below))
		}
	}
}

// P13.1: with the queue's text it is code.
func TestCodeWithTheQueue(t *testing.T) {
	if _, _, err := asm.Assemble(queue.Code(), lock.Code(), others); err != nil {
		t.Error(err)
	}
}

// P1: it is the same text at each call.
func TestCodeIsTheSame(t *testing.T) {
	if lock.Code() != lock.Code() || lock.Code() == "" {
		t.Error("the text isn't the same at each call")
	}
}
