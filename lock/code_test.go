package lock_test

import (
	"testing"

	"thole/desk"
	"thole/lock"
)

// P13.1: the text has the chapter's labels, each of an instruction, and goes to nothing but its own and the queue's.
func TestCode(t *testing.T) {
	desk.Has(t, lock.Code(), "lock.try", "lock.tryfair", "lock.free", "op.lock", "op.try", "op.unlock")
}

// P1: it is the same text at each call.
func TestCodeIsTheSame(t *testing.T) {
	if lock.Code() != lock.Code() || lock.Code() == "" {
		t.Error("the text isn't the same at each call")
	}
}
