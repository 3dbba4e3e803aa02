package replay_test

import (
	"math/rand"
	"reflect"
	"slices"
	"strconv"
	"strings"
	"testing"

	"thole/api"
	"thole/model"
	"thole/prog"
	"thole/replay"
)

// This file holds P11.1, P11.2 and P11.4 against histories by chance: each event is judged anew by looking back at all ahead of it, with the chapter's table as a text.

// chapter is the table: of kinds of calls the marks of each row, and its results. N is the call's, v any number that is
// the same throughout, - any at all, met another thread's Swap of this one's offer; what has * behind it may be any many times.
const chapter = `
1 13: take 1 = good | over 0 = over | quit - = broken late | = full
2 14: take 1 = good | fail 0 = bad | over 0 = over
3 15: free 0 = good | monitor 0 = monitor
4: take N = good | quit - = broken late | = full
5: take N = good | fail N = bad
6: free N = good | over N = over
7: drain v = good
8: take 0 = good | quit - = broken late | = full
9: down - = good
10: read 0 = good | over 1 = over | quit - = broken late | = full
11: read 0 = good | fail 1 = bad | over 1 = over
12: unread 0 = good | monitor 1 = monitor
16: monitor 0 = monitor | quit - = broken | = full | wait v take v = good | wait v cancel 0 take v = broken late
17: signal - = good | none - = good | monitor 0 = monitor
18: signal * none - = good | monitor 0 = monitor
19: swap v = good | offer N met - = good | offer N back - = broken late | quit - = broken late | = full
`

// tableRow is a row of the table: pairs of words, and results.
type tableRow struct{ marks, results []string }

// table is the chapter's, by kinds of calls.
func table() map[int][]tableRow {
	all := map[int][]tableRow{}
	for _, line := range strings.Split(strings.TrimSpace(chapter), "\n") {
		kinds, right, _ := strings.Cut(line, ":")
		for _, kind := range strings.Fields(kinds) {
			for _, part := range strings.Split(right, "|") {
				marks, results, _ := strings.Cut(part, "=")
				i := int(number([]string{kind}, 0))
				all[i] = append(all[i], tableRow{strings.Fields(marks), strings.Fields(results)})
			}
		}
	}
	return all
}

// matches tells whether the row begins with these marks, written as pairs of words, and whether they are all of it.
func (x tableRow) matches(o api.Op, marks []string) (begins, whole bool) {
	row, v := x.marks, ""
	for len(marks) > 0 {
		if len(row) == 0 {
			return false, false
		}
		name, value := row[0], row[1]
		switch {
		case value == "*" && marks[0] == name:
			marks = marks[2:]
			continue
		case value == "*":
			row = row[2:]
			continue
		case value == "N":
			value = strconv.Itoa(o.N)
		case value == "v" && v == "":
			v = marks[1]
			value = v
		case value == "v":
			value = v
		}
		if name != marks[0] || value != "-" && value != marks[1] {
			return false, false
		}
		row, marks = row[2:], marks[2:]
	}
	return true, len(row) == 0
}

// past is a script, and a history that may have been.
type past struct {
	s     api.Script
	l     []api.Event
	table map[int][]tableRow
}

// callAt is the number of the call of thread i that is on behind n events, where it began, and whether there is one.
func (p past) callAt(i, n int) (call, from int, on bool) {
	call = -1
	for k, e := range p.l[:n] {
		if e.Thread == i && e.Kind == api.EvCall {
			call, from, on = call+1, k, true
		} else if e.Thread == i && e.Kind == api.EvReturn {
			on = false
		}
	}
	return call, from, on
}

// opAt is the call of thread i that is on behind n events.
func (p past) opAt(i, n int) api.Op {
	call, _, _ := p.callAt(i, n)
	return p.s.Programs[i][call]
}

// things are how all objects stand behind n events: what all marks do, one behind the other.
func (p past) things(n int) []api.Thing {
	var l []api.Thing
	for _, o := range p.s.Objects {
		l = append(l, model.New(o))
	}
	for k, e := range p.l[:n] {
		if e.Kind == api.EvMark {
			x := &l[p.opAt(e.Thread, k).Obj]
			*x, _ = model.Do(*x, e.Thread, e.Note)
		}
	}
	return l
}

// seen is what a call came to so far: its marks, as pairs of words, what it got, and where it gave up.
type seen struct {
	marks []string
	got   int
	up    int
}

// see looks at a call of thread i that began at event from.
func (p past) see(i, from int) seen {
	x := seen{up: -1}
	object := p.opAt(i, from+1).Obj
	offered := false
	for k := from; k < len(p.l); k++ {
		e := p.l[k]
		if e.Kind != api.EvMark {
			continue
		}
		m, o := e.Note, p.opAt(e.Thread, k)
		mine := e.Thread == i
		switch {
		case mine:
			x.marks = append(x.marks, markWords[m.Kind], strconv.FormatInt(m.Value, 10))
			offered = offered || m.Kind == api.MkOffer
		case offered && m.Kind == api.MkSwap && m.Value == int64(i) && o.Obj == object:
			x.marks = append(x.marks, "met", "")
			x.got = o.N
		}
		switch {
		case mine && m.Kind == api.MkDrain:
			x.got = int(m.Value)
		case mine && m.Kind == api.MkSwap:
			x.got = p.opAt(int(m.Value), k).N
		case mine && (m.Kind == api.MkQuit || m.Kind == api.MkCancel || m.Kind == api.MkBack):
			x.up = k
		}
	}
	return x
}

// count is how many of the first n events these are.
func (p past) count(n int, is func(e api.Event) bool) int {
	count := 0
	for _, e := range p.l[:n] {
		if is(e) {
			count++
		}
	}
	return count
}

// may tells whether an event may come next.
func (p past) may(e api.Event) bool {
	if e.Thread < 0 || e.Thread >= len(p.s.Programs) || e.Now < 0 || len(p.l) > 0 && e.Now < p.l[len(p.l)-1].Now {
		return false
	}
	if e.Kind != api.EvMark && e.Note != (api.Note{}) || e.Kind != api.EvReturn && (e.Value != 0 || e.Got != 0) {
		return false
	}
	call, from, on := p.callAt(e.Thread, len(p.l))
	switch e.Kind {
	case api.EvBreak:
		return true
	case api.EvCall:
		return !on && call+1 < len(p.s.Programs[e.Thread])
	case api.EvMark:
		return on && p.markMay(e, p.s.Programs[e.Thread][call], from)
	case api.EvReturn:
		return on && p.returnMay(e, p.s.Programs[e.Thread][call], from)
	}
	return false
}

// rows are the rows of a call.
func (p past) rows(o api.Op) []tableRow {
	if p.s.Objects[o.Obj].Kind != prog.Of(o.Kind) {
		return []tableRow{{nil, []string{"unusable"}}}
	}
	return p.table[o.Kind]
}

// markMay is may, of a mark.
func (p past) markMay(e api.Event, o api.Op, from int) bool {
	if _, is := model.Do(p.things(len(p.l))[o.Obj], e.Thread, e.Note); !is {
		return false
	}
	marks := append(p.see(e.Thread, from).marks, markWords[e.Note.Kind], strconv.FormatInt(e.Note.Value, 10))
	return slices.ContainsFunc(p.rows(o), func(x tableRow) bool {
		begins, _ := x.matches(o, marks)
		return begins
	})
}

// returnMay is may, of a return.
func (p past) returnMay(e api.Event, o api.Op, from int) bool {
	x := p.see(e.Thread, from)
	if e.Got != x.got || e.Value < 0 || e.Value >= len(resultWords) {
		return false
	}
	is := slices.ContainsFunc(p.rows(o), func(row tableRow) bool {
		_, whole := row.matches(o, x.marks)
		return whole && slices.Contains(row.results, resultWords[e.Value])
	})
	switch {
	case is && e.Value == api.Broken:
		came := p.count(x.up, func(y api.Event) bool { return y.Thread == e.Thread && y.Kind == api.EvBreak })
		took := p.count(x.up, func(y api.Event) bool {
			return y.Thread == e.Thread && y.Kind == api.EvReturn && y.Value == api.Broken
		})
		return o.Breaks && came > took
	case is && e.Value == api.Late:
		return o.Wait != api.Forever && p.l[x.up].Now >= p.l[from].Now+o.Wait
	}
	return is
}

// someScript is a script by chance, with few objects, so that threads meet.
func someScript(r *rand.Rand) api.Script {
	var s api.Script
	for range 1 + r.Intn(2) {
		o := api.Object{Kind: 1 + r.Intn(api.Swap)}
		if o.Kind == api.Sema || o.Kind == api.Latch {
			o.N = []int{0, 1, 2, 3, 998, 1000}[r.Intn(6)]
		}
		s.Objects = append(s.Objects, o)
	}
	signals := s.Objects[0].Kind == api.Lock && r.Intn(2) == 0
	for range 1 + r.Intn(4) {
		var l []api.Op
		if signals {
			l = append(someSignals(r), someSignals(r)...)
		}
		for range r.Intn(8) {
			l = append(l, someOp(r, s.Objects))
		}
		s.Programs = append(s.Programs, l)
	}
	return s
}

// someSignals are calls that wait for a signal, or give it, of one's own Lock: calls by chance seldom come to that.
func someSignals(r *rand.Rand) []api.Op {
	wait := waits(op(api.OpWait, 0), int64(r.Intn(3)-1))
	wait.Breaks = r.Intn(2) == 0
	l := []api.Op{wait, op(api.OpSignal, 0), op(api.OpSignalAll, 0)}
	return ops(op(api.OpLock, 0), l[r.Intn(len(l))], op(api.OpUnlock, 0))
}

// someOp is a call by chance, most times of its own kind of object.
func someOp(r *rand.Rand, objects []api.Object) api.Op {
	for {
		obj := r.Intn(len(objects))
		o := on(obj, op(1+r.Intn(api.OpSwap), 0))
		if prog.Of(o.Kind) != objects[obj].Kind && r.Intn(60) > 0 {
			continue
		}
		switch o.Kind {
		case api.OpAcquire, api.OpTrySome, api.OpRelease:
			o.N = 1 + r.Intn(4)
		case api.OpSwap:
			o.N = r.Intn(api.MaxCount + 1)
		}
		if prog.Waits(o.Kind) {
			o.Wait, o.Breaks = int64(r.Intn(6)-1), r.Intn(2) == 0
		}
		return o
	}
}

// someEvent is an event by chance, of those that often may come next.
func someEvent(r *rand.Rand, p past) api.Event {
	e := api.Event{Thread: r.Intn(len(p.s.Programs))}
	if len(p.l) > 0 {
		e.Now = p.l[len(p.l)-1].Now
	}
	if r.Intn(6) == 0 {
		e.Now += int64(r.Intn(4) - 1)
	}
	call, from, on := p.callAt(e.Thread, len(p.l))
	switch {
	case r.Intn(20) == 0:
		e.Kind = api.EvBreak
	case !on || r.Intn(60) == 0:
		e.Kind = api.EvCall
	default:
		goOn(r, p, &e, p.s.Programs[e.Thread][call], p.see(e.Thread, from))
	}
	return e
}

// goOn makes it a mark or a return of a call that is on, most times one that is next in a row of the table.
func goOn(r *rand.Rand, p past, e *api.Event, o api.Op, x seen) {
	rows := p.rows(o)
	row := rows[r.Intn(len(rows))]
	rowOver := len(row.marks) <= len(x.marks)
	switch {
	case r.Intn(6) == 0 || rowOver:
		e.Kind, e.Value, e.Got = api.EvReturn, r.Intn(9), x.got
		if r.Intn(4) > 0 {
			e.Value = slices.Index(resultWords, row.results[r.Intn(len(row.results))])
		}
		if r.Intn(9) == 0 {
			e.Got = r.Intn(3)
		}
		// Who gives up is soon done, so most times another row is tried.
		if e.Value == api.Full && r.Intn(8) > 0 {
			e.Value = api.Good
		}
	default:
		e.Kind, e.Note.Kind = api.EvMark, 1+r.Intn(api.MkQuit)
		if i := slices.Index(markWords, row.marks[len(x.marks)]); i > 0 && r.Intn(6) > 0 {
			e.Note.Kind = i
		}
		if e.Note.Kind == api.MkQuit && r.Intn(3) > 0 {
			e.Note.Kind = api.MkTake
		}
		thing := p.things(len(p.l))[o.Obj]
		l := []int{0, 1, 0, 1, r.Intn(5), o.N, thing.N, thing.Holds, thing.Offer}
		for _, w := range thing.Waiters {
			l = append(l, w.Thread, w.Thread, w.Holds)
		}
		e.Note.Value = int64(l[r.Intn(len(l))])
	}
}

// grow is a history by chance, of which each event was judged, as were others that might have come in its place.
func grow(t *testing.T, r *rand.Rand, p past) past {
	t.Helper()
	for range 80 {
		found := false
		for range 60 {
			e := someEvent(r, p)
			is := p.may(e)
			tried(t, p.s, p.l, e, is)
			// An interrupt may be at all times; of too many of them nothing comes.
			if is && (e.Kind != api.EvBreak || r.Intn(8) == 0) {
				p.l, found = append(p.l, e), true
				break
			}
		}
		if !found {
			break
		}
	}
	return p
}

// came are the results that calls of each kind may come to, but those that no history has: no Lock and no RW is held so often as to come to Over, with so few calls.
func came() map[[2]int]bool {
	all := map[[2]int]bool{}
	for kind, rows := range table() {
		for _, x := range rows {
			for _, word := range x.results {
				all[[2]int{kind, slices.Index(resultWords, word)}] = true
			}
		}
		all[[2]int{kind, api.Unusable}] = true
		if prog.Of(kind) != api.Sema {
			delete(all, [2]int{kind, api.Over})
		}
	}
	return all
}

// P11.1, P11.2, P11.4: histories by chance; each beginning of one may have been, and so may one with more interrupts.
func TestLookingBack(t *testing.T) {
	r, left := rand.New(rand.NewSource(110)), came()
	for range 1000 {
		s := someScript(r)
		p := grow(t, r, past{s: s, table: table()})
		for n := range len(p.l) + 1 {
			things := may(t, s, p.l[:n])
			if want := p.things(n); !alike(things, want) {
				t.Fatalf("%s comes to %+v, want %+v", text(p.l[:n]), things, want)
			}
			calls := make([]int, len(s.Programs))
			for i := range calls {
				call, _, on := p.callAt(i, n)
				if calls[i] = -1; on {
					calls[i] = call
				}
			}
			if got := pending(t, s, p.l[:n]); !slices.Equal(got, calls) {
				t.Fatalf("Pending of %s: %v, want %v", text(p.l[:n]), got, calls)
			}
		}
		for k, e := range p.l {
			if e.Kind == api.EvReturn {
				delete(left, [2]int{p.opAt(e.Thread, k).Kind, e.Value})
			}
		}
		interrupted(t, r, p)
	}
	if len(left) > 0 {
		t.Errorf("these kinds of calls never came to these results: %v", left)
	}
}

// interrupted tells a fault if the history with more interrupts may not have been, or comes to something else.
func interrupted(t *testing.T, r *rand.Rand, p past) {
	t.Helper()
	l := slices.Clone(p.l)
	for range 1 + r.Intn(6) {
		at, e := r.Intn(len(l)+1), api.Event{Kind: api.EvBreak, Thread: r.Intn(len(p.s.Programs))}
		if at > 0 {
			e.Now = l[at-1].Now
		}
		l = slices.Insert(l, at, e)
	}
	if things, want := may(t, p.s, l), p.things(len(p.l)); !alike(things, want) {
		t.Fatalf("with more interrupts, %s comes to %+v, want %+v", text(l), things, want)
	}
	if !slices.Equal(replay.Pending(p.s, l), replay.Pending(p.s, p.l)) {
		t.Fatalf("with more interrupts, other calls of %s are on", text(l))
	}
}

// alike tells whether things are the same, be a list of nothing nil or empty.
func alike(l, want []api.Thing) bool {
	return slices.EqualFunc(l, want, func(x, y api.Thing) bool {
		same := slices.Equal(x.Waiters, y.Waiters)
		x.Waiters, y.Waiters = nil, nil
		return same && reflect.DeepEqual(x, y)
	})
}
