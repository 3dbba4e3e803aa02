package lock

// tries is how a lock is asked for, without waiting.
//
// The state alone tells whether it is somebody's, so the marks stand at the steps that change it, or that find it held. The owner's cell tells each thread of its own holds alone: of others' it may be behind.
const tries = `
; r0 the object, r1 how many holds of a lock that is nobody's: r0 1, if they are taken, or one more of one's own; 2, if one's own are as many as there may be; else 0.
lock.try:
self r2
addi r2 r2 1
ld r3 r0 3
jeq r3 r2 lock.more
lock.take:
mov r3 r15
mov r4 r1
cas r3 r0 2
jne r5 r14 lock.not
mark 1 r1
st r2 r0 3
mov r0 r14
ret
; No access may stand from the one that found it held on: op.try's mark of that belongs to the same step.
lock.not:
mov r0 r15
ret

; Likewise, but of a lock that is nobody's those that stand in the queue go first.
lock.tryfair:
self r2
addi r2 r2 1
ld r3 r0 3
jeq r3 r2 lock.more
mov r3 r0
mov r4 r1
call queue.pred
jne r0 r15 lock.not
mov r0 r3
mov r1 r4
jmp lock.take

lock.more:
ld r3 r0 2
set r4 1000
jlt r3 r4 lock.once
mark 7 r15
set r0 2
ret
lock.once:
addi r3 r3 1
st r3 r0 2
mark 1 r14
mov r0 r14
ret
`
