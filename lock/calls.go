package lock

// calls are the entries. Register 1 doesn't count: who locks asks for one hold, though its call's N is 0.
const calls = `
; r0 the object, r2 the deadline, r3 whether an interrupt ends it.
op.lock:
set r14 1
set r15 0
mov r1 r14
mov r4 r15
call queue.acq
done r0

; r0 the object. It doesn't mind the queue of a fair one: a try that fails is one of a lock that is held.
op.try:
set r14 1
set r15 0
mov r1 r14
call lock.try
jeq r0 r14 op.try.good
jeq r0 r15 op.try.bad
set r0 5
done r0
op.try.good:
done r15
op.try.bad:
mark 5 r15
done r14

; r0 the object.
op.unlock:
set r14 1
set r15 0
mov r6 r0
call lock.free
jeq r0 r15 op.unlock.good
jne r0 r14 op.unlock.monitor
mov r0 r6
call queue.rel
op.unlock.good:
done r15
op.unlock.monitor:
set r0 4
done r0
`
