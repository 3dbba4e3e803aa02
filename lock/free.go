package lock

// free is how a hold is given back.
//
// The owner's cell is cleared ahead of the state: once that is 0 another thread may be the owner.
const free = `
; r0 the object: r0 1, if it is nobody's then; 0, if it is one's own still; 2, if it wasn't one's own.
lock.free:
self r2
addi r2 r2 1
ld r3 r0 3
jne r3 r2 lock.free.not
ld r3 r0 2
addi r3 r3 -1
jne r3 r15 lock.free.less
st r15 r0 3
st r15 r0 2
mark 3 r15
mov r0 r14
ret
lock.free.less:
st r3 r0 2
mark 3 r15
mov r0 r15
ret
lock.free.not:
mark 6 r15
set r0 2
ret
`
