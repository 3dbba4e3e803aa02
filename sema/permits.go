package sema

// permits is how permits are taken and given, without waiting.
//
// The state is all that a semaphore is, so each mark stands at the step of the access that changes it, or that finds too few or too many.
const permits = `
; r0 the object, r1 0 less how many: r0 1, if they are taken, and r1 how many are left; else r0 0. Those that stand in the queue go first.
sema.tryfair:
mov r2 r0
mov r3 r1
call queue.pred
jne r0 r15 sema.not
mov r0 r2
mov r1 r3

; Likewise, whoever stands in the queue.
sema.try:
ld r2 r0 2
add r3 r2 r1
jlt r3 r15 sema.not
cas r2 r0 2
jne r4 r14 sema.try
mark 1 r1
mov r0 r14
mov r1 r3
ret
; No access may stand from the one that found too few on: op.trysome's mark of that belongs to the same step.
sema.not:
mov r0 r15
ret

; r0 the object, r1 how many: r0 1, if so many more are there; 2, if they would be more than there may be.
sema.free:
ld r2 r0 2
add r3 r2 r1
set r5 1000
jlt r5 r3 sema.over
cas r2 r0 2
jne r4 r14 sema.free
mark 3 r1
mov r0 r14
ret
sema.over:
mark 7 r1
set r0 2
ret

; r0 the object: all are taken; r0 how many they were.
sema.drain:
ld r2 r0 2
mov r3 r15
cas r2 r0 2
jne r4 r14 sema.drain
mark 9 r2
mov r0 r2
ret
`
