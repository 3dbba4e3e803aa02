package replay_test

import (
	"slices"
	"strings"
	"testing"

	"thole/api"
)

// This file holds P11.1 against each line of the chapter's table: of a call that is on, every mark of every value, and every result with all that may be got.

// markValues are the values that marks are tried with, and gots what may be got.
var (
	markValues = []int64{least, -1000, -7, -3, -2, -1, 0, 1, 2, 3, 4, 5, 6, 7, 8, 997, 998, 999, 1000, 1001, 1 << 32, 1<<32 + 1, most}
	gots       = []int{least, -1, 0, 1, 2, 3, 5, 7, 1000, 1 << 32, most}
)

// line is marks, and what they come to.
type line struct {
	marks   []api.Note
	results []api.Result
}

// written are the lines that are written: marks parted by commas, a colon, and results, each perhaps with what is got.
func written(texts []string) []line {
	var l []line
	for _, text := range texts {
		left, right, _ := strings.Cut(text, ":")
		var x line
		for _, m := range strings.Split(left, ",") {
			if m = strings.TrimSpace(m); m != "" {
				x.marks = append(x.marks, history("0 " + m)[0].Note)
			}
		}
		for _, word := range strings.Fields(right) {
			if i := slices.Index(resultWords, word); i >= 0 {
				x.results = append(x.results, api.Result{Value: i})
			} else {
				x.results[len(x.results)-1].Got = int(number([]string{word}, 0))
			}
		}
		l = append(l, x)
	}
	return l
}

// just tells a fault if behind these events the thread's call goes on by other marks than these, or comes to something else.
func just(t *testing.T, s api.Script, lead string, thread int, texts ...string) {
	t.Helper()
	past := history(lead)
	may(t, s, past)
	goesOn(t, s, past, thread, nil, written(texts))
}

// goesOn is just, behind some of these marks.
func goesOn(t *testing.T, s api.Script, past []api.Event, thread int, marks []api.Note, lines []line) {
	t.Helper()
	e := api.Event{Thread: thread}
	if len(past) > 0 {
		e.Now = past[len(past)-1].Now
	}
	for value := -1; value <= api.Unusable+1; value++ {
		for _, got := range gots {
			e.Kind, e.Value, e.Got = api.EvReturn, value, got
			tried(t, s, past, e, slices.ContainsFunc(lines, func(x line) bool {
				return slices.Equal(x.marks, marks) && slices.Contains(x.results, api.Result{Value: value, Got: got})
			}))
		}
	}
	e.Kind, e.Value, e.Got = api.EvMark, 0, 0
	for kind := -1; kind <= api.MkQuit+1; kind++ {
		for _, v := range markValues {
			e.Note = api.Note{Kind: kind, Value: v}
			more := append(slices.Clone(marks), e.Note)
			is := slices.ContainsFunc(lines, func(x line) bool {
				return len(x.marks) >= len(more) && slices.Equal(x.marks[:len(more)], more)
			})
			if tried(t, s, past, e, is); is {
				goesOn(t, s, append(slices.Clone(past), e), thread, more, lines)
			}
		}
	}
}

// tried tells a fault if an event may be behind these, or may not, other than is wanted.
func tried(t *testing.T, s api.Script, past []api.Event, e api.Event, want bool) {
	t.Helper()
	l := append(slices.Clone(past), e)
	_, err := run(t, s, l)
	if at := wrongAt(t, err); want && at != -1 || !want && at != len(past) {
		t.Fatalf("the last event of %s may be: %v; want %v (wrong: %d)", text(l), at == -1, want, at)
	}
}

// rows are calls that are on, and all that they may come to.
var rows = []struct {
	name  string
	s     api.Script
	lead  string
	of    int // the thread whose call it is
	lines []string
}{
	{"lock of nobody", of(api.Lock, 0, ops(ends(api.OpLock, 0))), "0 break; 0 call", 0, []string{"take 1: good", "quit: broken late", ": full"}},
	{"lock of one's own", of(api.Lock, 0, ops(op(api.OpTry, 0), ends(api.OpLock, 0))), "0 break; 0 call; 0 take 1; 0 return good; 0 call", 0, []string{"take 1: good", "quit: broken late", ": full"}},
	{"lock of another's", of(api.Lock, 0, ops(op(api.OpLock, 0)), ops(ends(api.OpLock, 0))), "1 break; 0 call; 1 call; 0 take 1", 1, []string{"quit: broken late", ": full"}},
	{"lock that waits forever", of(api.Lock, 0, ops(op(api.OpLock, 0))), "0 break; 0 call", 0, []string{"take 1: good", "quit:", ": full"}},
	{"lock that breaks", of(api.Lock, 0, ops(breaks(op(api.OpLock, 0)))), "0 break; 0 call", 0, []string{"take 1: good", "quit: broken", ": full"}},
	{"lock that waits", of(api.Lock, 0, ops(waits(op(api.OpLock, 0), 1))), "0 break; 0 call; @1 0 break", 0, []string{"take 1: good", "quit: late", ": full"}},
	{"try of nobody", of(api.Lock, 0, ops(op(api.OpTry, 0))), "0 break; 0 call", 0, []string{"take 1: good"}},
	{"try of one's own", of(api.Lock, 0, ops(op(api.OpTry, 0), op(api.OpTry, 0))), "0 call; 0 take 1; 0 return good; 0 call", 0, []string{"take 1: good"}},
	{"try of another's", of(api.Lock, 0, ops(op(api.OpLock, 0)), ops(op(api.OpTry, 0))), "0 call; 0 take 1; 1 call", 1, []string{"fail: bad"}},
	{"unlock of nobody", of(api.Lock, 0, ops(op(api.OpUnlock, 0))), "0 call", 0, []string{"monitor: monitor"}},
	{"unlock of one's own", example, "0 call; 0 take 1; 0 return good; 0 call", 0, []string{"free: good"}},
	{"unlock of another's", of(api.Lock, 0, ops(op(api.OpLock, 0)), ops(op(api.OpUnlock, 0))), "0 call; 0 take 1; 1 call", 1, []string{"monitor: monitor"}},

	{"acquire", of(api.Sema, 5, ops(ends(api.OpAcquire, 3))), "0 break; 0 call", 0, []string{"take 3: good", "quit: broken late", ": full"}},
	{"acquire of too many", of(api.Sema, 5, ops(ends(api.OpAcquire, 6))), "0 break; 0 call", 0, []string{"quit: broken late", ": full"}},
	{"try some", of(api.Sema, 5, ops(op(api.OpTrySome, 5))), "0 call", 0, []string{"take 5: good"}},
	{"try too many", of(api.Sema, 5, ops(op(api.OpTrySome, 7))), "0 call", 0, []string{"fail 7: bad"}},
	{"release", of(api.Sema, 997, ops(op(api.OpRelease, 3))), "0 call", 0, []string{"free 3: good"}},
	{"release too many", of(api.Sema, 998, ops(op(api.OpRelease, 3))), "0 call", 0, []string{"over 3: over"}},
	{"drain", of(api.Sema, 5, ops(op(api.OpDrain, 0))), "0 call", 0, []string{"drain 5: good 5"}},
	{"drain none", of(api.Sema, 0, ops(op(api.OpDrain, 0))), "0 call", 0, []string{"drain: good"}},

	{"await an open latch", of(api.Latch, 0, ops(ends(api.OpAwait, 0))), "0 break; 0 call", 0, []string{"take: good", "quit: broken late", ": full"}},
	{"await", of(api.Latch, 1, ops(ends(api.OpAwait, 0))), "0 break; 0 call", 0, []string{"quit: broken late", ": full"}},
	{"down", of(api.Latch, 1, ops(op(api.OpDown, 0))), "0 call", 0, []string{"down 1: good"}},
	{"down an open latch", of(api.Latch, 0, ops(op(api.OpDown, 0))), "0 call", 0, []string{"down: good"}},

	{"read", of(api.RW, 0, ops(ends(api.OpRead, 0))), "0 break; 0 call", 0, []string{"read: good", "quit: broken late", ": full"}},
	{"read one's own", of(api.RW, 0, ops(op(api.OpWrite, 0), ends(api.OpRead, 0))), "0 break; 0 call; 0 take 1; 0 return good; 0 call", 0, []string{"read: good", "quit: broken late", ": full"}},
	{"read another's", of(api.RW, 0, ops(op(api.OpWrite, 0)), ops(ends(api.OpRead, 0))), "1 break; 0 call; 0 take 1; 1 call", 1, []string{"quit: broken late", ": full"}},
	{"try to read", of(api.RW, 0, ops(op(api.OpTryRead, 0)), ops(op(api.OpRead, 0))), "1 call; 1 read; 0 call", 0, []string{"read: good"}},
	{"try to read another's", of(api.RW, 0, ops(op(api.OpTryRead, 0)), ops(op(api.OpTryWrite, 0))), "1 call; 1 take 1; 0 call", 0, []string{"fail 1: bad"}},
	{"read no more", of(api.RW, 0, ops(op(api.OpRead, 0), op(api.OpUnread, 0))), "0 call; 0 read; 0 return good; 0 call", 0, []string{"unread: good"}},
	{"read no more what another reads", of(api.RW, 0, ops(op(api.OpUnread, 0)), ops(op(api.OpRead, 0))), "1 call; 1 read; 0 call", 0, []string{"monitor 1: monitor"}},
	{"write", of(api.RW, 0, ops(ends(api.OpWrite, 0))), "0 break; 0 call", 0, []string{"take 1: good", "quit: broken late", ": full"}},
	{"write what one reads", of(api.RW, 0, ops(op(api.OpRead, 0), ends(api.OpWrite, 0))), "0 break; 0 call; 0 read; 0 return good; 0 call", 0, []string{"quit: broken late", ": full"}},
	{"write another's", of(api.RW, 0, ops(ends(api.OpWrite, 0)), ops(op(api.OpWrite, 0))), "0 break; 0 call; 1 call; 1 take 1", 0, []string{"quit: broken late", ": full"}},
	{"try to write", of(api.RW, 0, ops(op(api.OpTryWrite, 0))), "0 call", 0, []string{"take 1: good"}},
	{"try to write one's own", of(api.RW, 0, ops(op(api.OpWrite, 0), op(api.OpTryWrite, 0))), "0 call; 0 take 1; 0 return good; 0 call", 0, []string{"take 1: good"}},
	{"try to write what one reads", of(api.RW, 0, ops(op(api.OpTryRead, 0), op(api.OpTryWrite, 0))), "0 call; 0 read; 0 return good; 0 call", 0, []string{"fail: bad"}},
	{"write no more", of(api.RW, 0, ops(op(api.OpWrite, 0), op(api.OpUnwrite, 0))), "0 call; 0 take 1; 0 return good; 0 call", 0, []string{"free: good"}},
	{"write no more what one reads", of(api.RW, 0, ops(op(api.OpRead, 0), op(api.OpUnwrite, 0))), "0 call; 0 read; 0 return good; 0 call", 0, []string{"monitor: monitor"}},

	{"wait for nobody's", of(api.Lock, 0, ops(ends(api.OpWait, 0))), "0 break; 0 call", 0, []string{"monitor: monitor", "quit: broken", ": full"}},
	{"wait", of(api.Lock, 0, ops(op(api.OpLock, 0), op(api.OpTry, 0), ends(api.OpWait, 0))), "0 break; 0 call; 0 take 1; 0 return good; 0 call; 0 take 1; 0 return good; 0 call", 0,
		[]string{"wait 2, cancel, take 2: broken late", "quit: broken", ": full"}},
	{"wait, with a signal", of(api.Lock, 0, ops(op(api.OpLock, 0), op(api.OpTry, 0), ends(api.OpWait, 0)), ops(op(api.OpLock, 0), op(api.OpSignal, 0), op(api.OpUnlock, 0))),
		"0 break; 0 call; 0 take 1; 0 return good; 0 call; 0 take 1; 0 return good; 0 call; 0 wait 2; 1 call; 1 take 1; 1 return good; 1 call; 1 signal 0; 1 return good; 1 call; 1 free", 0,
		[]string{"take 2: good"}},
	{"wait, with a signal, for another's", of(api.Lock, 0, ops(op(api.OpLock, 0), ends(api.OpWait, 0)), ops(op(api.OpLock, 0), op(api.OpSignal, 0))),
		"0 break; 0 call; 0 take 1; 0 return good; 0 call; 0 wait 1; 1 call; 1 take 1; 1 return good; 1 call; 1 signal 0", 0, nil},
	{"signal of nobody's", of(api.Lock, 0, ops(op(api.OpSignal, 0))), "0 call", 0, []string{"monitor: monitor"}},
	{"signal, and none waits", of(api.Lock, 0, ops(op(api.OpLock, 0), op(api.OpSignal, 0))), "0 call; 0 take 1; 0 return good; 0 call", 0, []string{"none: good"}},
	{"signal, and two wait", twoWait(api.OpSignal), bothWait, 0, []string{"signal 2: good"}},
	{"signal all, of nobody's", of(api.Lock, 0, ops(op(api.OpSignalAll, 0))), "0 call", 0, []string{"monitor: monitor"}},
	{"signal all, and none waits", of(api.Lock, 0, ops(op(api.OpLock, 0), op(api.OpSignalAll, 0))), "0 call; 0 take 1; 0 return good; 0 call", 0, []string{"none: good"}},
	{"signal all, and two wait", twoWait(api.OpSignalAll), bothWait, 0, []string{"signal 2, signal 1, none: good"}},

	{"swap", of(api.Swap, 0, ops(ends(api.OpSwap, 5))), "0 break; 0 call", 0, []string{"offer 5, back: broken late", "quit: broken late", ": full"}},
	{"swap with an offer", of(api.Swap, 0, ops(ends(api.OpSwap, 5)), ops(op(api.OpSwap, 7))), "0 break; 0 call; 1 call; 1 offer 7", 0, []string{"swap 1: good 7", "quit: broken late", ": full"}},
	{"swap that was met", of(api.Swap, 0, ops(ends(api.OpSwap, 5)), ops(op(api.OpSwap, 7))), "0 break; 0 call; 1 call; 0 offer 5; 1 swap 0", 0, []string{": good 7"}},
	{"swap that meets", of(api.Swap, 0, ops(ends(api.OpSwap, 5)), ops(op(api.OpSwap, 7))), "0 break; 0 call; 1 call; 0 offer 5; 1 swap 0; 0 return good 7", 1, []string{": good 5"}},
}

// ends is a call that waits for no time, and breaks.
func ends(kind, n int) api.Op { return breaks(waits(op(kind, n), 0)) }

// twoWait are two threads that wait for the signal of thread 0, which has locked; bothWait is how they come to it, thread 2 first.
func twoWait(kind int) api.Script {
	wait := ops(op(api.OpLock, 0), op(api.OpWait, 0))
	return of(api.Lock, 0, ops(op(api.OpLock, 0), op(kind, 0)), wait, wait)
}

const bothWait = "2 call; 2 take 1; 2 return good; 2 call; 2 wait 1; 1 call; 1 take 1; 1 return good; 1 call; 1 wait 1; 0 call; 0 take 1; 0 return good; 0 call"

func TestRows(t *testing.T) {
	for _, x := range rows {
		t.Run(x.name, func(t *testing.T) { just(t, x.s, x.lead, x.of, x.lines...) })
	}
}
