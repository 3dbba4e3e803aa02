package replay_test

import (
	"errors"
	"reflect"
	"slices"
	"strconv"
	"strings"
	"testing"

	"thole/api"
	"thole/prog"
	"thole/replay"
)

// This file holds how these tests write histories, and how they ask.
//
// A history is written as events, parted by a new line or by "; ", each of the thread's number and a word: "0 call",
// "0 offer 5" (a mark and its value; 0, if it has none), "0 return late" or "0 return good 7" (a result, and what was
// got), "0 break". "@5" says at which time the ones behind it are.

// markWords and resultWords are the words of marks and of results, by their numbers.
var (
	markWords = []string{
		"", "take", "read", "free", "unread", "fail", "monitor", "over", "down", "drain", "wait", "signal", "none", "cancel", "swap", "offer", "back", "quit",
	}
	resultWords = []string{"good", "bad", "broken", "late", "monitor", "over", "full", "unusable"}
)

// number is the number that is written there.
func number(l []string, i int) int64 {
	if i >= len(l) {
		return 0
	}
	n, err := strconv.ParseInt(l[i], 10, 64)
	if err != nil {
		panic(err)
	}
	return n
}

// history is what is written there.
func history(texts ...string) []api.Event {
	now, l := int64(0), []api.Event{}
	for _, line := range strings.FieldsFunc(strings.Join(texts, ";"), func(r rune) bool { return r == ';' || r == '\n' }) {
		words := strings.Fields(line)
		if len(words) > 0 && words[0][0] == '@' {
			now = number([]string{words[0][1:]}, 0)
			words = words[1:]
		}
		if len(words) > 0 {
			l = append(l, event(now, words))
		}
	}
	return l
}

// event is the event of these words.
func event(now int64, words []string) api.Event {
	e := api.Event{Thread: int(number(words, 0)), Now: now}
	switch words[1] {
	case "call":
		e.Kind = api.EvCall
	case "break":
		e.Kind = api.EvBreak
	case "return":
		e.Kind, e.Value, e.Got = api.EvReturn, slices.Index(resultWords, words[2]), int(number(words, 3))
	default:
		e.Kind, e.Note = api.EvMark, api.Note{Kind: slices.Index(markWords, words[1]), Value: number(words, 2)}
	}
	if e.Value < 0 || e.Note.Kind < 0 {
		panic("no such word: " + strings.Join(words, " "))
	}
	return e
}

// Calls of object 0: op one that waits as long as it takes, if it may wait, of a number; waits one that waits so long at most; breaks one that an interrupt ends.

func op(kind, n int) api.Op {
	o := api.Op{Kind: kind, N: n}
	if prog.Waits(kind) {
		o.Wait = api.Forever
	}
	return o
}

func waits(o api.Op, wait int64) api.Op {
	o.Wait = wait
	return o
}

func breaks(o api.Op) api.Op {
	o.Breaks = true
	return o
}

// on is that call, of another object.
func on(i int, o api.Op) api.Op {
	o.Obj = i
	return o
}

// of is a script of one object and these threads.
func of(kind, n int, programs ...[]api.Op) api.Script {
	return api.Script{Objects: []api.Object{{Kind: kind, N: n}}, Programs: programs}
}

// ops is a thread's program.
func ops(l ...api.Op) []api.Op { return l }

// spare is what stands in a list of events behind its end.
var spare = api.Event{Kind: 77, Thread: 78}

// copied is the same list, in memory of its own, that has room for more.
func copied(l []api.Event) []api.Event {
	return append(append([]api.Event{}, l...), spare, spare)[:len(l)]
}

// copiedScript is the same script, in memory of its own.
func copiedScript(s api.Script) api.Script {
	s.Objects = slices.Clone(s.Objects)
	s.Programs = slices.Clone(s.Programs)
	for i, l := range s.Programs {
		s.Programs[i] = slices.Clone(l)
	}
	s.Picks = slices.Clone(s.Picks)
	return s
}

// run is Run; it tells a fault if what is handed in is changed, or shares memory with what is told.
func run(t *testing.T, s api.Script, l []api.Event) ([]api.Thing, error) {
	t.Helper()
	sIn, lIn := copiedScript(s), copied(l)
	things, err := replay.Run(sIn, lIn)
	told := make([]api.Thing, len(things))
	for i, x := range things {
		told[i] = x
		told[i].Waiters = slices.Clone(x.Waiters)
	}
	for i := range things {
		waiters := things[i].Waiters[:cap(things[i].Waiters)]
		for k := range waiters {
			waiters[k] = api.Waiter{Thread: 99, Holds: 99}
		}
		things[i].Kind = 99
		for k := i + 1; k < len(things); k++ {
			if !slices.Equal(things[k].Waiters, told[k].Waiters) {
				t.Fatalf("Run told two things that share memory")
			}
		}
	}
	unchanged(t, "Run", s, l, sIn, lIn)
	if err == nil && len(things) != len(s.Objects) || err != nil && things != nil {
		t.Fatalf("Run told %d things of %d objects, and %v", len(things), len(s.Objects), err)
	}
	return told, err
}

// pending is Pending; it tells a fault if what is handed in is changed.
func pending(t *testing.T, s api.Script, l []api.Event) []int {
	t.Helper()
	sIn, lIn := copiedScript(s), copied(l)
	calls := replay.Pending(sIn, lIn)
	told := slices.Clone(calls)
	for i := range calls {
		calls[i] = 99
	}
	unchanged(t, "Pending", s, l, sIn, lIn)
	return told
}

// unchanged tells a fault if what was handed in isn't as it was.
func unchanged(t *testing.T, name string, s api.Script, l []api.Event, sIn api.Script, lIn []api.Event) {
	t.Helper()
	want := copied(l)
	if !reflect.DeepEqual(sIn, copiedScript(s)) || !slices.Equal(lIn[:len(l)+2], want[:len(l)+2]) {
		t.Fatalf("%s changed what was handed in", name)
	}
}

// wrongAt is the place of the first event that may not be, or -1; any other error is a fault.
func wrongAt(t *testing.T, err error) int {
	t.Helper()
	if err == nil {
		return -1
	}
	var at *api.Spot
	if !errors.As(err, &at) || at.Err != api.ErrWrong || !errors.Is(err, api.ErrWrong) {
		t.Fatalf("%v (%T) is no ErrWrong at a place", err, err)
	}
	return at.At
}

// may tells a fault if the history may not have been; else how its things stand.
func may(t *testing.T, s api.Script, l []api.Event) []api.Thing {
	t.Helper()
	things, err := run(t, s, l)
	if err != nil {
		t.Fatalf("%v of %s; want none", err, text(l))
	}
	return things
}

// wrong tells a fault unless the event at that place is the first one that may not be; all ahead of it may be.
func wrong(t *testing.T, s api.Script, at int, l []api.Event) {
	t.Helper()
	_, err := run(t, s, l)
	if got := wrongAt(t, err); got != at {
		t.Errorf("event %d of %s is wrong; want %d", got, text(l), at)
	}
	if calls := pending(t, s, l); calls != nil {
		t.Errorf("Pending of %s, which may not be: %v", text(l), calls)
	}
	may(t, s, l[:at])
}

// lastWrong is wrong, of the last event.
func lastWrong(t *testing.T, s api.Script, texts ...string) {
	t.Helper()
	l := history(texts...)
	wrong(t, s, len(l)-1, l)
}

// text is the history, written as here, as far as it can be.
func text(l []api.Event) string {
	var b strings.Builder
	for _, e := range l {
		b.WriteString("@" + strconv.FormatInt(e.Now, 10) + " " + strconv.Itoa(e.Thread) + " ")
		switch e.Kind {
		case api.EvCall:
			b.WriteString("call")
		case api.EvBreak:
			b.WriteString("break")
		case api.EvReturn:
			b.WriteString("return " + word(resultWords, e.Value) + " " + strconv.Itoa(e.Got))
		case api.EvMark:
			b.WriteString(word(markWords, e.Note.Kind) + " " + strconv.FormatInt(e.Note.Value, 10))
		default:
			b.WriteString("kind " + strconv.Itoa(e.Kind))
		}
		b.WriteString("; ")
	}
	return b.String()
}

// word is the word of that number, or the number.
func word(words []string, i int) string {
	if i < 0 || i >= len(words) || words[i] == "" {
		return strconv.Itoa(i)
	}
	return words[i]
}
