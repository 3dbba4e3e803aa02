package latch

// calls are the entries. Who asks is shared: all those that wait go on together, each one seeing to the next.
const calls = `
; r0 the object, r2 the deadline, r3 whether an interrupt ends it.
op.await:
set r14 1
set r15 0
mov r4 r14
call queue.acq
done r0

; r0 the object.
op.down:
set r14 1
set r15 0
mov r6 r0
call latch.down
jne r0 r14 op.down.end
mov r0 r6
call queue.share
op.down.end:
done r15
`
