package replay

import (
	"testing"

	"thole/api"
)

// This file holds the rows of P11.1's table that no history has: with as many calls as there may be, no Lock and no RW is held so often as to come to Over.

func TestOver(t *testing.T) {
	values := map[int]int64{
		api.OpLock: 0, api.OpTry: 0, api.OpWrite: 0, api.OpTryWrite: 0,
		api.OpRead: 1, api.OpTryRead: 1,
		api.OpUnlock: -1, api.OpUnwrite: -1, api.OpUnread: -1, api.OpWait: -1, api.OpSignal: -1, api.OpSignalAll: -1,
	}
	for kind, value := range values {
		of := api.RW
		if kind <= api.OpUnlock || kind >= api.OpWait {
			of = api.Lock
		}
		rows := rowsOf(api.Op{Kind: kind}, of)
		for v := range int64(3) {
			marks := []api.Note{{Kind: api.MkOver, Value: v}}
			want := v == value
			if someBegins(rows, marks) != want || someComes(rows, marks, api.Over) != want {
				t.Errorf("a call of kind %d may come to Over by a mark of %d: %v; want %v", kind, v, !want, want)
			}
			for result := api.Good; result <= api.Unusable; result++ {
				if result != api.Over && someComes(rows, marks, result) {
					t.Errorf("a call of kind %d comes to %d by a mark MkOver", kind, result)
				}
			}
		}
		if someComes(rows, nil, api.Over) {
			t.Errorf("a call of kind %d comes to Over without a mark", kind)
		}
	}
}
