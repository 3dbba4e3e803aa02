package sema_test

import (
	"testing"

	"thole/desk"
	"thole/sema"
)

// P14.1: the text has the chapter's labels, each of an instruction, and goes to nothing but its own and the queue's.
func TestCode(t *testing.T) {
	desk.Has(t, sema.Code(), "sema.try", "sema.tryfair", "sema.free", "sema.drain", "op.acquire", "op.trysome", "op.release", "op.drain")
}

// P1: it is the same text at each call.
func TestCodeIsTheSame(t *testing.T) {
	if sema.Code() != sema.Code() || sema.Code() == "" {
		t.Error("the text isn't the same at each call")
	}
}
