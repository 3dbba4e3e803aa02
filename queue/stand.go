package queue

// stand is how a thread waits in the queue until it has what it asked for, or gives up.
const stand = `
; r2, r3, r4 as queue.acq has them, r5 the node, r6 the object, r7 what is asked for, r8 1, if an interrupt was put off: r0 the result.
queue.stand:
ld r9 r5 1
ld r10 r6 0
jne r9 r10 queue.stand.wait
mov r0 r6
mov r1 r7
call queue.try
jeq r0 r14 queue.stand.good
jne r0 r15 queue.stand.over
queue.stand.wait:
mov r0 r9
mov r1 r5
call queue.ready
jeq r0 r15 queue.stand
mov r0 r2
mov r1 r3
call queue.ends
jne r0 r15 queue.stand.quit
park r2
; Where an interrupt ends the call queue.ends takes it; else it is put off, or the thread would never park again.
jeq r3 r14 queue.stand
intr r9
jeq r9 r15 queue.stand
mov r8 r14
jmp queue.stand

; The node is the head now. The next one that shares may have it, too, and so on, whatever was free for this one.
queue.stand.good:
st r5 r6 0
st r15 r5 1
st r15 r5 3
mov r9 r15
jne r4 r14 queue.stand.end
mov r0 r6
mov r1 r5
call queue.next
jmp queue.stand.end
queue.stand.over:
mov r0 r6
mov r1 r5
call queue.cancel
set r9 5
jmp queue.stand.end
queue.stand.quit:
mov r9 r0
mov r0 r6
mov r1 r5
call queue.cancel
mark 17 r15
queue.stand.end:
jeq r8 r15 queue.stand.left
setint
queue.stand.left:
mov r0 r9
ret
`
