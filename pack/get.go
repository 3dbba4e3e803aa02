package pack

import "thole/api"

// longest is how many elements a list may be written with. It is more than any script may have, and keeps what is read from growing with a count alone.
const longest = 1 << 16

// The last byte that 64 bits need stands at lastByte, and has room for lastDigit at most.
const (
	lastByte  = 63 / digitBits
	lastDigit = 1<<(64-lastByte*digitBits) - 1
)

// reader takes things from the front of bytes. Once they are none it is bad, and has nothing left: each thing that is asked of it is none, too.
type reader struct {
	rest []byte
	bad  bool
}

// spoil makes the reader bad.
func (r *reader) spoil() { r.rest, r.bad = nil, true }

// number takes a number, or 0 if there is none: its bytes don't end, aren't as few as can be, or have more than 64 bits.
func (r *reader) number() int64 {
	u := uint64(0)
	for i, c := range r.rest {
		if i == lastByte && c > lastDigit || i > 0 && c == 0 {
			break
		}
		u += uint64(c%follows) << (i * digitBits)
		if c < follows {
			r.rest = r.rest[i+1:]
			return unfold(u)
		}
	}
	r.spoil()
	return 0
}

// unfold is the number of which fold is u.
func unfold(u uint64) int64 {
	if u%2 == 1 {
		return -int64(u/2) - 1
	}
	return int64(u / 2)
}

// flag takes a bool, or false if there is none.
func (r *reader) flag() bool {
	n := r.number()
	if n < 0 || n > 1 {
		r.spoil()
	}
	return n == 1
}

// count takes how many elements a list has, or 0 if it is none.
func (r *reader) count() int {
	n := r.number()
	if n < 0 || n > longest {
		r.spoil()
		return 0
	}
	return int(n)
}

// getList takes a list. It asks for nothing behind the first element that is none, and makes no room ahead of what is there: a count is only as true as its bytes.
func getList[T any](r *reader, get func(r *reader) T) []T {
	var all []T
	for range r.count() {
		x := get(r)
		if r.bad {
			return nil
		}
		all = append(all, x)
	}
	return all
}

// getObject takes an object.
func getObject(r *reader) api.Object {
	var x api.Object
	x.Kind = int(r.number())
	x.Fair = r.flag()
	x.N = int(r.number())
	return x
}

// getProgram takes a thread's calls.
func getProgram(r *reader) []api.Op { return getList(r, getOp) }

// getOp takes a call.
func getOp(r *reader) api.Op {
	var op api.Op
	op.Kind = int(r.number())
	op.Obj = int(r.number())
	op.N = int(r.number())
	op.Wait = r.number()
	op.Breaks = r.flag()
	return op
}

// getPick takes a pick.
func getPick(r *reader) api.Pick {
	var p api.Pick
	p.Kind = int(r.number())
	p.N = r.number()
	return p
}
