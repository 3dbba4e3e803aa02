package queue

// ask is how an object is asked, and who need not stand in its queue.
const ask = `
; r0 the object, r1 what is asked for, as its tries have it; of a RW to read, if it is below 0, else to write.
queue.try:
ld r2 r0 4
ld r3 r0 5
addi r4 r14 1
addi r5 r4 1
jeq r2 r14 queue.try.lock
jeq r2 r4 queue.try.sema
jeq r2 r5 latch.try
jlt r1 r15 queue.try.read
jeq r3 r15 rw.trywrite
jmp rw.trywritefair
queue.try.read:
jeq r3 r15 rw.tryread
jmp rw.tryreadfair
queue.try.lock:
jeq r3 r15 lock.try
jmp lock.tryfair
queue.try.sema:
jeq r3 r15 sema.try
jmp sema.tryfair

; r0 a deadline, r1 whether an interrupt ends the call: r0 2 or 3, as it is Broken or Late by now, else 0.
queue.ends:
jeq r1 r15 queue.ends.time
intr r1
jeq r1 r15 queue.ends.time
set r0 2
ret
queue.ends.time:
jlt r0 r15 queue.ends.not
now r1
jlt r1 r0 queue.ends.not
set r0 3
ret
queue.ends.not:
mov r0 r15
ret

; r0 the object, r1 what is asked for, r2 the deadline, r3 whether an interrupt ends it, r4 whether it is shared: r0 the result.
queue.acq:
mov r6 r0
mov r7 r1
call queue.try
jeq r0 r14 queue.acq.good
jne r0 r15 queue.acq.over
mov r0 r2
mov r1 r3
call queue.ends
jne r0 r15 queue.acq.quit
alloc r5 6
jeq r5 r15 queue.acq.full
self r8
addi r8 r8 1
st r8 r5 3
st r4 r5 4
mov r8 r15
mov r0 r6
mov r1 r5
call queue.enq
jmp queue.stand
queue.acq.good:
mov r0 r15
ret
queue.acq.over:
set r0 5
ret
queue.acq.quit:
mark 17 r15
ret
queue.acq.full:
set r0 6
ret

; r0 the object, r1 what is asked for, r2 a node of the queue: asks by it, as long as it takes.
queue.again:
mov r5 r2
mov r6 r0
mov r7 r1
addi r2 r15 -1
mov r3 r15
mov r4 r15
mov r8 r15
jmp queue.stand
`
