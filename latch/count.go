package latch

// count is how a latch is asked whether it is open, and counted down, without waiting.
//
// The state is all that a latch is, so each mark stands at the step of the access that changes it, or that finds it 0.
const count = `
; r0 the object: r0 1, if its count is 0, else 0. Whoever stands in the queue: what is open is open for all.
latch.try:
ld r2 r0 2
mov r0 r15
jne r2 r15 latch.try.end
mark 1 r15
mov r0 r14
latch.try.end:
ret

; r0 the object: it is counted down, if it isn't 0; r0 1, if it is 0 by that, else 0.
latch.down:
ld r2 r0 2
jeq r2 r15 latch.down.none
addi r3 r2 -1
cas r2 r0 2
jne r4 r14 latch.down
mark 8 r14
mov r0 r15
jne r3 r15 latch.down.end
mov r0 r14
latch.down.end:
ret
; It was open already, and who opened it sees to those that wait.
latch.down.none:
mark 8 r15
mov r0 r15
ret
`
