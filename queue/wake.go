package queue

// wake is how those that stand in the queue are unparked.
//
// A status of -1 stays: who sets it asks once more ahead of parking, so whoever frees the object behind that finds it, and who does so ahead of that isn't needed.
const wake = `
; r0 the object: the first one behind the head is unparked, if it may park there. Whether what is freed is shared doesn't matter: who gets it sees to the others (queue.next).
queue.rel:
queue.share:
ld r1 r0 0
ld r2 r1 0
jeq r2 r15 queue.unpark.end

; r0 the object, r1 a node: the first one behind it is unparked.
queue.unps:
call queue.first

; r0 a node, or 0: its thread is unparked.
queue.unpark:
jeq r0 r15 queue.unpark.end
ld r1 r0 3
jeq r1 r15 queue.unpark.end
addi r1 r1 -1
unpark r1
queue.unpark.end:
ret

; r0 the object, r1 a node: the first one behind it is unparked, if it is shared. Any other one waits for those that share to leave.
queue.next:
call queue.first
jeq r0 r15 queue.unpark.end
ld r1 r0 4
jeq r1 r14 queue.unpark
ret
`
