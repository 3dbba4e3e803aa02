package queue_test

// This file has tries and entries of layers that aren't built yet, as short as can be, to hold the queue's routines against.

// failed is how tries and entries end that come to nothing.
const failed = `
test.no:
mov r0 r15
ret
test.many:
mark 7 r15
set r0 2
ret
test.monitor:
mark 6 r15
set r0 4
done r0
`

// rwTries are those of a RW: state how often it is read, or 0 less 1 and how often its writer reads.
const rwTries = `
rw.trywritefair:
self r2
addi r2 r2 1
ld r3 r0 3
jeq r3 r2 rw.more
mov r6 r0
call queue.pred
jne r0 r15 test.no
mov r0 r6
jmp rw.take
rw.trywrite:
self r2
addi r2 r2 1
ld r3 r0 3
jeq r3 r2 rw.more
rw.take:
mov r3 r15
addi r4 r15 -1
cas r3 r0 2
jne r5 r14 test.no
mark 1 r14
st r2 r0 3
st r14 r0 14
mov r0 r14
ret
rw.more:
ld r3 r0 14
set r4 1000
jeq r3 r4 test.many
addi r3 r3 1
st r3 r0 14
mark 1 r14
mov r0 r14
ret
rw.tryreadfair:
ld r3 r0 2
jne r3 r15 rw.tryread
mov r6 r0
call queue.pred
jne r0 r15 test.no
mov r0 r6
rw.tryread:
ld r3 r0 2
jlt r3 r15 rw.tryread.held
set r4 1000
jeq r3 r4 rw.many
addi r4 r3 1
jmp rw.tryread.take
rw.tryread.held:
self r2
addi r2 r2 1
ld r4 r0 3
jne r4 r2 test.no
addi r4 r3 -1
rw.tryread.take:
cas r3 r0 2
jne r5 r14 rw.tryread
mark 2 r15
self r2
add r2 r2 r0
ld r3 r2 6
addi r3 r3 1
st r3 r2 6
mov r0 r14
ret
rw.many:
mark 7 r14
set r0 2
ret

op.read:
set r14 1
set r15 0
addi r1 r15 -1
mov r4 r14
call queue.acq
done r0
op.write:
set r14 1
set r15 0
mov r1 r14
mov r4 r15
call queue.acq
done r0
op.unread:
set r14 1
set r15 0
self r2
add r2 r2 r0
ld r3 r2 6
jeq r3 r15 op.unread.none
addi r3 r3 -1
st r3 r2 6
op.unread.again:
ld r3 r0 2
addi r4 r3 -1
jlt r15 r3 op.unread.less
addi r4 r3 1
op.unread.less:
cas r3 r0 2
jne r5 r14 op.unread.again
mark 4 r15
jne r4 r15 op.unread.end
call queue.rel
op.unread.end:
done r15
op.unread.none:
mark 6 r14
set r0 4
done r0
op.unwrite:
set r14 1
set r15 0
self r2
addi r2 r2 1
ld r3 r0 3
jne r3 r2 test.monitor
ld r3 r0 14
addi r3 r3 -1
st r3 r0 14
jne r3 r15 op.unwrite.less
st r15 r0 3
ld r4 r0 2
addi r4 r4 1
add r5 r15 r15
op.unwrite.reads:
jeq r4 r15 op.unwrite.free
addi r4 r4 1
addi r5 r5 1
jmp op.unwrite.reads
op.unwrite.free:
st r5 r0 2
mark 3 r15
call queue.rel
done r15
op.unwrite.less:
mark 3 r15
done r15
`

// condTries are what waits for a signal of a Lock.
const condTries = `
op.wait:
set r14 1
set r15 0
self r4
addi r4 r4 1
ld r5 r0 3
jne r5 r4 test.monitor
mov r11 r0
ld r12 r11 2
alloc r13 6
addi r6 r15 -2
st r6 r13 0
st r4 r13 3
ld r7 r11 15
jeq r7 r15 op.wait.first
st r13 r7 5
jmp op.wait.last
op.wait.first:
st r13 r11 14
op.wait.last:
st r13 r11 15
mov r5 r15
mov r10 r15
st r15 r11 3
st r15 r11 2
mark 10 r12
call queue.rel
op.wait.loop:
ld r4 r13 0
jne r4 r6 op.wait.signalled
intr r4
jeq r4 r15 op.wait.time
jeq r3 r14 op.wait.broken
mov r5 r14
op.wait.time:
jlt r2 r15 op.wait.park
now r4
jlt r4 r2 op.wait.park
set r10 3
jmp op.wait.cancel
op.wait.broken:
set r10 2
op.wait.cancel:
mov r7 r15
cas r6 r13 0
jne r8 r14 op.wait.lost
mark 13 r15
mov r0 r11
mov r1 r13
call queue.enq
jmp op.wait.take
op.wait.lost:
set r4 3
jeq r10 r4 op.wait.late
mov r5 r14
op.wait.late:
mov r10 r15
jmp op.wait.signalled
op.wait.park:
park r2
jmp op.wait.loop
op.wait.signalled:
ld r4 r13 4
jeq r4 r15 op.wait.signalled
st r15 r13 4
op.wait.take:
mov r0 r11
mov r1 r12
mov r2 r13
call queue.again
jeq r5 r15 op.wait.end
setint
op.wait.end:
done r10
op.signal:
set r14 1
set r15 0
self r4
addi r4 r4 1
ld r5 r0 3
jne r5 r4 test.monitor
op.signal.next:
ld r5 r0 14
jeq r5 r15 op.signal.none
ld r7 r5 5
st r7 r0 14
jne r7 r15 op.signal.cas
st r15 r0 15
op.signal.cas:
addi r10 r15 -2
mov r11 r15
ld r9 r5 3
cas r10 r5 0
jne r12 r14 op.signal.next
addi r9 r9 -1
mark 11 r9
mov r1 r5
call queue.enq
st r14 r5 4
unpark r9
done r15
op.signal.none:
mark 12 r15
done r15
`
