package queue_test

import (
	"testing"

	"thole/api"
)

// calls are a thread's, one behind the other.
func calls(l ...api.Op) []api.Op { return l }

// walked is what a walk goes through: calls of one object, the threads that do their first ones alone ahead of it, and what may befall all.
type walked struct {
	name     string
	o        api.Object
	alone    []int
	out      outside
	programs [][]api.Op
}

// through goes through all of them: each run that may come is a history that may have been, nobody is trapped, and no wakeup is lost.
func through(t *testing.T, l []walked) {
	t.Helper()
	for _, c := range l {
		t.Run(c.name, func(t *testing.T) {
			t.Parallel()
			r := begin(t, []api.Object{c.o}, c.programs...)
			r.alone(t, c.alone...)
			if n, quiet := walk(t, r, c.out); n < 50 || quiet < 1 {
				t.Errorf("%d ways to stand, %d of them quiet, tell too little", n, quiet)
			}
		})
	}
}

// Two or three threads whose calls are on together, from the beginning on.
func TestTogether(t *testing.T) {
	late, pair, tried := within(1, toLock), calls(toLock, toUnlock), calls(toTry, toUnlock)
	taken := calls(toAcquire(1), toRelease(1))
	through(t, []walked{
		{"lock", aLock, nil, outside{breaks: 1, wakes: 2}, [][]api.Op{pair, pair}},
		{"lock twice", aLock, nil, outside{}, [][]api.Op{{toLock, toLock, toUnlock, toUnlock}, {toLock, toUnlock, toLock, toUnlock}}},
		{"fair lock", fair(aLock), nil, outside{wakes: 1}, [][]api.Op{pair, pair}},
		{"tries", aLock, nil, outside{}, [][]api.Op{tried, tried, tried}},
		{"lock or try", aLock, nil, outside{breaks: 1, wakes: 1}, [][]api.Op{pair, {toTry, toTry, toUnlock, toUnlock}}},
		{"fair lock or try", fair(aLock), nil, outside{}, [][]api.Op{pair, pair, {toTry}}},
		{"late or broken", aLock, nil, outside{1, 1, 1}, [][]api.Op{pair, {breaks(late), toUnlock}}},
		{"three, one late", aLock, nil, outside{ticks: 1}, [][]api.Op{pair, {late}, {toLock}}},
		{"signal", aLock, nil, outside{wakes: 1}, [][]api.Op{{toLock, toWait, toUnlock}, {toLock, toSignal, toUnlock}}},
		{"signal or late", aLock, nil, outside{ticks: 1}, [][]api.Op{{toLock, within(1, toWait), toUnlock}, {toLock, toSignal, toUnlock}}},
		{"signal or broken", aLock, nil, outside{breaks: 1}, [][]api.Op{{toLock, breaks(toWait), toUnlock}, {toLock, toSignal, toUnlock}}},
		{"read or write", aRW, nil, outside{1, 1, 0}, [][]api.Op{{breaks(within(1, toRead)), toUnread}, {toWrite, toUnwrite}}},
		{"write or read", fair(aRW), nil, outside{1, 1, 0}, [][]api.Op{{toRead, toUnread}, {within(1, toWrite), toUnwrite}}},
		{"permits", aSema(0), nil, outside{ticks: 1}, [][]api.Op{{within(1, toAcquire(1))}, {toAcquire(1)}, {toRelease(1)}}},
		{"fair permits", fair(aSema(1)), nil, outside{wakes: 1}, [][]api.Op{taken, taken}},
		{"fair permits or try", fair(aSema(1)), nil, outside{}, [][]api.Op{taken, taken, {toTrySome(1)}}},
		{"permits late or broken", aSema(1), nil, outside{1, 1, 1}, [][]api.Op{taken, {breaks(within(1, toAcquire(1))), toRelease(1)}}},
		{"tries of permits", aSema(2), nil, outside{}, [][]api.Op{{toTrySome(1), toRelease(1)}, {toTrySome(2), toRelease(2)}, {toTrySome(2), toTrySome(1)}}},
		{"some or all", aSema(2), nil, outside{}, [][]api.Op{{toTrySome(2), toRelease(2)}, {toDrain, toRelease(1)}, taken}},
		{"too many", aSema(api.MaxCount - 1), nil, outside{}, [][]api.Op{{toRelease(1), toRelease(1)}, {toRelease(2), toDrain}, {toRelease(1), toTrySome(api.MaxCount)}}},
		{"latch", aLatch(2), nil, outside{ticks: 1}, [][]api.Op{{within(1, toAwait)}, {toAwait}, {toDown, toDown}}},
		{"latch late or broken", aLatch(1), nil, outside{1, 1, 1}, [][]api.Op{{breaks(within(1, toAwait)), toAwait}, {toDown, toDown}}},
		{"two downs, one too many", aLatch(1), nil, outside{wakes: 1}, [][]api.Op{{toAwait}, {toDown, toAwait}, {toDown}}},
		{"downs of three", aLatch(4), nil, outside{}, [][]api.Op{{toDown, toDown, toAwait}, {toDown, toDown}, {toDown}}},
		{"all down, all await", aLatch(3), nil, outside{}, [][]api.Op{{toDown, toAwait}, {toDown, toAwait}, {toDown, toAwait}}},
	})
}

// Threads that stand in the queue, of which some give up, while the object is freed, or asked for anew.
func TestInTheQueue(t *testing.T) {
	late, pair, tried := calls(within(1, toLock)), calls(toLock, toUnlock), calls(toTry, toUnlock)
	through(t, []walked{
		{"first two late", aLock, []int{0, 1, 2, 3}, outside{ticks: 1}, [][]api.Op{pair, late, late, {toLock}}},
		{"first three late", aLock, []int{0, 1, 2, 3, 4}, outside{ticks: 1}, [][]api.Op{{toLock}, late, late, late, {toLock}}},
		{"middle ones late", aLock, []int{0, 1, 2, 3, 4}, outside{ticks: 1}, [][]api.Op{pair, {toLock}, late, late, {toLock}}},
		{"last ones late", aLock, []int{0, 1, 2, 3}, outside{ticks: 1}, [][]api.Op{pair, {toLock}, late, late}},
		{"last one late", aLock, []int{0, 1, 2}, outside{ticks: 1}, [][]api.Op{{toLock}, {toLock}, late, {toLock}}},
		{"fair, first two late", fair(aLock), []int{0, 1, 2, 3}, outside{ticks: 1}, [][]api.Op{pair, late, late, {toLock}}},
		{"fair, one more", fair(aLock), []int{0, 1}, outside{}, [][]api.Op{pair, pair, pair}},
		{"try by the way", aLock, []int{0, 1}, outside{ticks: 1}, [][]api.Op{pair, late, tried}},
		{"fair, try by the way", fair(aLock), []int{0, 1}, outside{}, [][]api.Op{pair, pair, tried}},
		{"fair, try of one in the queue", fair(aLock), []int{0, 1, 2}, outside{breaks: 1}, [][]api.Op{pair, {breaks(toLock), toTry, toUnlock}, pair}},
		{"one more", aLock, []int{0, 1}, outside{breaks: 1}, [][]api.Op{pair, {breaks(toLock), toUnlock}, {toLock}}},
		{"writer late", aRW, []int{0, 1, 2, 3}, outside{ticks: 1}, [][]api.Op{{toWrite, toUnwrite}, {toRead}, {within(1, toWrite)}, {toRead}}},
		{"readers late", aRW, []int{0, 1, 2, 3}, outside{ticks: 1}, [][]api.Op{{toWrite, toUnwrite}, {within(1, toRead)}, {within(1, toRead)}, {toRead}}},
		{"writer behind readers", aRW, []int{0, 1, 2}, outside{}, [][]api.Op{{toRead, toUnread}, {toWrite, toUnwrite}, {toWrite}}},
		{"reader by the way", aRW, []int{0, 1}, outside{}, [][]api.Op{{toRead, toUnread}, {toWrite, toUnwrite}, {toRead, toUnread}}},
		{"two that release", aSema(0), []int{0, 1}, outside{}, [][]api.Op{{toAcquire(1)}, {toAcquire(1)}, {toRelease(1)}, {toRelease(1)}}},
		{"two that release, one late", aSema(0), []int{0, 1}, outside{ticks: 1}, [][]api.Op{{within(1, toAcquire(1))}, {toAcquire(1)}, {toRelease(1)}, {toRelease(1)}}},
		{"two that release, one broken", fair(aSema(0)), []int{0, 1}, outside{breaks: 1}, [][]api.Op{{breaks(toAcquire(1))}, {toAcquire(2)}, {toRelease(1)}, {toRelease(2)}}},
		{"first lacks some", aSema(1), []int{0, 1}, outside{ticks: 1}, [][]api.Op{{within(1, toAcquire(3))}, {toAcquire(2)}, {toRelease(1)}, {toRelease(1)}}},
		{"fair, first lacks some", fair(aSema(1)), []int{0, 1}, outside{ticks: 1}, [][]api.Op{{within(1, toAcquire(3))}, {toAcquire(1)}, {toRelease(1)}, {toAcquire(1)}}},
		{"enough for all", aSema(0), []int{0, 1, 2}, outside{}, [][]api.Op{{toAcquire(1)}, {toAcquire(2)}, {toAcquire(1)}, {toRelease(4)}}},
		{"drain by the way", aSema(0), []int{0, 1}, outside{}, [][]api.Op{{toAcquire(1)}, {toAcquire(1)}, {toRelease(1), toDrain}, {toRelease(2)}}},
		{"fair, try of permits by the way", fair(aSema(0)), []int{0, 1}, outside{}, [][]api.Op{{toAcquire(1)}, {toAcquire(2)}, {toRelease(1), toTrySome(1), toRelease(2)}}},
		{"latch of three", aLatch(2), []int{0, 1, 2}, outside{ticks: 1}, [][]api.Op{{toAwait}, {within(1, toAwait)}, {toAwait}, {toDown}, {toDown}}},
		{"latch, first one late", aLatch(1), []int{0, 1}, outside{ticks: 1}, [][]api.Op{{within(1, toAwait)}, {toAwait}, {toDown}, {toAwait}}},
		{"latch, last one broken", aLatch(1), []int{0, 1, 2}, outside{breaks: 1}, [][]api.Op{{toAwait}, {toAwait}, {breaks(toAwait), toAwait}, {toDown, toDown}}},
		{"latch by the way", aLatch(1), []int{0, 1}, outside{}, [][]api.Op{{toAwait, toDown}, {toAwait}, {toDown}, {within(0, toAwait), toAwait}}},
	})
}
