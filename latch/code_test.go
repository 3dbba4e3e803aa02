package latch_test

import (
	"strings"
	"testing"

	"thole/asm"
	"thole/desk"
	"thole/latch"
)

// P15.1: the text has the chapter's labels, each of an instruction, and goes to nothing but its own and the queue's.
func TestCode(t *testing.T) {
	desk.Has(t, latch.Code(), "latch.try", "latch.down", "op.await", "op.down")
}

// P15.1: its labels are its own alone, so it goes together with the other texts.
func TestLabels(t *testing.T) {
	_, l, err := asm.Assemble(latch.Code(), "queue.acq:\nqueue.share:\nret")
	if err != nil {
		t.Fatal(err)
	}
	for _, x := range l[:len(l)-2] {
		if !strings.HasPrefix(x.Name, "latch.") && !strings.HasPrefix(x.Name, "op.await") && !strings.HasPrefix(x.Name, "op.down") {
			t.Errorf("the label %s is another layer's", x.Name)
		}
	}
}

// P1: it is the same text at each call.
func TestCodeIsTheSame(t *testing.T) {
	if latch.Code() != latch.Code() || latch.Code() == "" {
		t.Error("the text isn't the same at each call")
	}
}
