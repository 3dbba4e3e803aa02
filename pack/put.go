package pack

import "thole/api"

// A byte of a number has one digit of seven bits, and above it whether another one follows.
const (
	digitBits = 7
	follows   = 1 << digitBits
)

// putList writes how many there are, and each of them, behind b.
func putList[T any](b []byte, all []T, put func(b []byte, x T) []byte) []byte {
	b = putNumber(b, int64(len(all)))
	for _, x := range all {
		b = put(b, x)
	}
	return b
}

// putObject writes an object behind b.
func putObject(b []byte, x api.Object) []byte {
	b = putNumber(b, int64(x.Kind))
	b = putFlag(b, x.Fair)
	return putNumber(b, int64(x.N))
}

// putProgram writes a thread's calls behind b.
func putProgram(b []byte, ops []api.Op) []byte { return putList(b, ops, putOp) }

// putOp writes a call behind b.
func putOp(b []byte, op api.Op) []byte {
	b = putNumber(b, int64(op.Kind))
	b = putNumber(b, int64(op.Obj))
	b = putNumber(b, int64(op.N))
	b = putNumber(b, op.Wait)
	return putFlag(b, op.Breaks)
}

// putPick writes a pick behind b.
func putPick(b []byte, p api.Pick) []byte {
	b = putNumber(b, int64(p.Kind))
	return putNumber(b, p.N)
}

// putFlag writes a bool behind b.
func putFlag(b []byte, is bool) []byte {
	if is {
		return putNumber(b, 1)
	}
	return putNumber(b, 0)
}

// putNumber writes a number behind b.
func putNumber(b []byte, n int64) []byte {
	u := fold(n)
	for u >= follows {
		b = append(b, byte(u%follows)+follows)
		u /= follows
	}
	return append(b, byte(u))
}

// fold is 2 n, if n isn't below 0, else -2 n - 1: so a number near 0 has few digits on either side of it.
func fold(n int64) uint64 {
	if n < 0 {
		// -2 n alone has no room at the lowest n; -n - 1 is never below 0.
		return 2*uint64(-(n+1)) + 1
	}
	return 2 * uint64(n)
}
