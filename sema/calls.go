package sema

// calls are the entries. Who asks is shared: what one that waited leaves may be enough for the next one.
const calls = `
; r0 the object, r1 0 less how many, r2 the deadline, r3 whether an interrupt ends it.
op.acquire:
set r14 1
set r15 0
mov r4 r14
call queue.acq
done r0

; r0 the object, r1 0 less how many. It doesn't mind the queue of a fair one: a try that fails is one of fewer permits.
op.trysome:
set r14 1
set r15 0
mov r6 r1
call sema.try
jeq r0 r14 op.trysome.good
mark 5 r6
done r14
op.trysome.good:
done r15

; r0 the object, r1 how many.
op.release:
set r14 1
set r15 0
mov r6 r0
call sema.free
jne r0 r14 op.release.over
mov r0 r6
call queue.share
done r15
op.release.over:
set r0 5
done r0

; r0 the object. How many were there is told as 16 times as much.
op.drain:
set r14 1
set r15 0
call sema.drain
add r0 r0 r0
add r0 r0 r0
add r0 r0 r0
add r0 r0 r0
done r0
`
