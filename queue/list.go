package queue

// list is how nodes come into the queue and leave it.
//
// Who looks for nodes goes from the tail on by what is ahead of each: that is there as soon as a node is the tail, while what is behind a node is told later, and may have given up.
const list = `
; r0 the object, r1 a node: it stands behind all; r0 the one that is ahead of it.
queue.enq:
mov r3 r1
queue.enq.again:
ld r2 r0 1
st r2 r1 1
cas r2 r0 1
jne r4 r14 queue.enq.again
st r1 r2 2
mov r0 r2
ret

; r0 the object, r1 a node: r0 the first one behind it that didn't give up, or 0.
; The node may have left the queue by now; then the search ends at the head.
queue.first:
ld r2 r0 0
ld r3 r0 1
mov r0 r15
queue.first.next:
jeq r3 r1 queue.first.end
jeq r3 r2 queue.first.end
jeq r3 r15 queue.first.end
ld r4 r3 0
jeq r4 r14 queue.first.ahead
mov r0 r3
queue.first.ahead:
ld r3 r3 1
jmp queue.first.next
queue.first.end:
ret

; r0 the object: r0 1, if the first one behind the head is another thread's, else 0.
queue.pred:
mov r1 r15
call queue.first
jeq r0 r15 queue.pred.end
ld r1 r0 3
self r2
addi r2 r2 1
mov r0 r15
jeq r1 r2 queue.pred.end
mov r0 r14
queue.pred.end:
ret

; r0 the object, r1 a node of the queue that isn't the head: it gives up.
queue.cancel:
st r15 r1 3
st r14 r1 0
mov r5 r0
queue.cancel.ahead:
ld r3 r1 1
mov r0 r3
call queue.ready
jne r0 r14 queue.cancel.ahead
mov r0 r5
; As the tail it leaves the queue, and nobody is behind it.
mov r2 r1
cas r2 r0 1
jeq r4 r14 queue.cancel.end
; The one ahead unparks those behind, once it is the head; but if it was the head already, it may have looked for them too early.
ld r4 r0 0
jeq r3 r4 queue.unps
queue.cancel.end:
ret

; r0 the one ahead of a node, r1 the node: r0 1, if the one ahead is to unpark those behind it; else 0, for it is told so only now, or gave up, and another one is ahead now.
queue.ready:
ld r2 r0 0
addi r3 r15 -1
jeq r2 r3 queue.ready.yes
jeq r2 r14 queue.ready.ahead
cas r2 r0 0
mov r0 r15
ret
queue.ready.ahead:
ld r0 r0 1
ld r2 r0 0
jeq r2 r14 queue.ready.ahead
st r0 r1 1
st r1 r0 2
mov r0 r15
ret
queue.ready.yes:
mov r0 r14
ret
`
