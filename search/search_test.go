package search

import (
	"math"
	"slices"
	"testing"

	"alibi/api"
	"alibi/history"
)

// extremes are values around the ends of all ranges.
var extremes = []int{
	math.MinInt, math.MinInt + 1, -65536, -64, -16, -2, -1, 0, 1, 2, 3, 4, 5, 6, 7, 8, 9, 10, 11,
	15, 16, 17, 31, 32, 63, 64, 65, 127, 128, 255, 256, 257, 999, 1000, 1001, 65535, 65536, 1 << 32, math.MaxInt - 1, math.MaxInt,
}

// call returns the event by which a process calls an operation.
func call(who, thing, kind, value int) api.Event {
	return api.Event{Who: who, Thing: thing, Kind: kind, Value: value}
}

// end returns the event by which a process gets a response.
func end(who, thing, value int) api.Event {
	return api.Event{Who: who, Thing: thing, Kind: api.KEnd, Value: value}
}

// whole returns the two events of an operation that overlaps with no other one.
func whole(who, thing, kind, value, result int) []api.Event {
	return []api.Event{call(who, thing, kind, value), end(who, thing, result)}
}

// step returns a step of a witness.
func step(call, result int) api.Step {
	return api.Step{Call: call, Res: result}
}

func wantRight(t *testing.T, types []int, l []api.Event, want bool, w ...api.Step) {
	t.Helper()
	if is, e := Right(types, l, w); is != want || e != api.OK {
		t.Errorf("Right(%v, %v, %v) = %v, %d; want %v, 0", types, l, w, is, e, want)
	}
}

// wantFind checks that Find returns the steps, and that Right accepts them.
func wantFind(t *testing.T, types []int, l []api.Event, want ...api.Step) {
	t.Helper()
	if w, is, e := Find(types, l); !slices.Equal(w, want) || !is || e != api.OK {
		t.Errorf("Find(%v, %v) = %v, %v, %d; want %v, true, 0", types, l, w, is, e, want)
	}
	wantRight(t, types, l, true, want...)
}

// wantNone checks that Find finds nothing, and returns nothing.
func wantNone(t *testing.T, types []int, l []api.Event) {
	t.Helper()
	if w, is, e := Find(types, l); w != nil || is || e != api.OK {
		t.Errorf("Find(%v, %v) = %v, %v, %d; want nil, false, 0", types, l, w, is, e)
	}
}

// wantError checks that all functions return the error and no more, whatever the witness is.
func wantError(t *testing.T, types []int, l []api.Event, want api.Errno) {
	t.Helper()
	if w, is, e := Find(types, l); w != nil || is || e != want {
		t.Errorf("Find(%v, %v) = %v, %v, %d; want nil, false, %d", types, l, w, is, e, want)
	}
	if w, is, e := FindIn(types, l, api.Rel{}); w != nil || is || e != want {
		t.Errorf("FindIn(%v, %v, {}) = %v, %v, %d; want nil, false, %d", types, l, w, is, e, want)
	}
	if calls, e := Calls(types, l); calls != nil || e != want {
		t.Errorf("Calls(%v, %v) = %v, %d; want nil, %d", types, l, calls, e, want)
	}
	for _, w := range [][]api.Step{nil, {step(0, 0)}, {step(-1, 0)}, {step(99, 0)}, make([]api.Step, 10)} {
		if is, e := Right(types, l, w); is || e != want {
			t.Errorf("Right(%v, %v, %v) = %v, %d; want false, %d", types, l, w, is, e, want)
		}
		if is, e := RightIn(types, l, api.Rel{}, w); is || e != want {
			t.Errorf("RightIn(%v, %v, {}, %v) = %v, %d; want false, %d", types, l, w, is, e, want)
		}
	}
}

// sample returns a history of all types but one, its smallest linearization, and another one.
func sample() ([]int, []api.Event, []api.Step, []api.Step) {
	types := []int{api.TQueue, api.TReg, api.TTicket, api.TSet}
	l := []api.Event{
		call(0, 0, api.KDeq, 0),
		call(7, 0, api.KEnq, 5),
		call(1, 1, api.KRead, 0),
		call(2, 2, api.KTake, 0),
		end(0, 0, 5),
		call(3, 2, api.KTake, 0),
		end(3, 2, 0),
		call(3, 1, api.KWrite, 8),
		end(1, 1, 8),
		call(4, 3, api.KAdd, 6),
	}
	least := []api.Step{step(1, 0), step(0, 5), step(4, 0), step(3, 1), step(5, 0), step(2, 8)}
	other := []api.Step{step(1, 0), step(0, 5), step(4, 0), step(5, 0), step(2, 8), step(6, 1)}
	return types, l, least, other
}

// takeTurns returns the events of n operations, by which some processes in turn take tickets from some objects.
func takeTurns(n, whos, things int) []api.Event {
	var l []api.Event
	for i := range n {
		l = append(l, whole(i%whos, i%things, api.KTake, 0, i/things)...)
	}
	return l
}

// tickets returns the types of ticket counters.
func tickets(n int) []int {
	return slices.Repeat([]int{api.TTicket}, n)
}

// P1: no function panics or runs forever, whatever an argument is.
func TestAnyArgument(t *testing.T) {
	types, l, least, _ := sample()
	for _, n := range extremes {
		for _, m := range extremes {
			Find([]int{n, m}, l)
			Find(types, []api.Event{call(n, m, api.KTake, 0), end(n, m, 0)})
			Find(types, []api.Event{call(0, 1, n, m), end(0, 1, m)})
			Right([]int{n, m}, l, least)
			Right(types, l, []api.Step{step(n, m), step(m, n)})
			Right(types, l, append(least[:4:4], step(n, m)))
			for at := range l {
				changed := slices.Clone(l)
				changed[at].Value = n
				changed[at].Who = m
				Find(types, changed)
				Right(types, changed, least)
			}
		}
	}
	Find(nil, nil)
	Find(make([]int, 100_000), make([]api.Event, 100_000))
	Right(nil, nil, nil)
	Right(types, l, make([]api.Step, 100_000))
	Right(types, l, slices.Repeat(least, 100_000))
}

// P2: the arguments, with their spare capacity, are as they were.
func TestArgumentsAreKept(t *testing.T) {
	types, l, least, other := sample()
	for _, w := range [][]api.Step{least, other, least[:3]} {
		manyTypes := append(slices.Clone(types), -11, -12)
		manyEvents := append(slices.Clone(l), end(-13, -14, -15), end(-16, -17, -18))
		manySteps := append(slices.Clone(w), step(-19, -20), step(-21, -22))
		Find(manyTypes[:len(types)], manyEvents[:len(l)])
		Right(manyTypes[:len(types)], manyEvents[:len(l)], manySteps[:len(w)])
		if !slices.Equal(manyTypes, append(slices.Clone(types), -11, -12)) {
			t.Error(manyTypes)
		}
		if !slices.Equal(manyEvents, append(slices.Clone(l), end(-13, -14, -15), end(-16, -17, -18))) {
			t.Error(manyEvents)
		}
		if !slices.Equal(manySteps, append(slices.Clone(w), step(-19, -20), step(-21, -22))) {
			t.Error(manySteps)
		}
	}
}

// P2: overwriting one result, with its spare capacity, changes no other result.
func TestResultsAreNew(t *testing.T) {
	types, l, least, _ := sample()
	first, _, _ := Find(types, l)
	second, _, _ := Find(types, l)
	first = first[:cap(first)]
	for i := range first {
		first[i] = step(-99, -99)
	}
	if !slices.Equal(second, least) {
		t.Error(second)
	}
	wantFind(t, types, l, least...)
}

// P2: the results of a call do not depend on the calls before it.
func TestNoStateIsKept(t *testing.T) {
	types, l, least, other := sample()
	q := []int{api.TQueue}
	bad := slices.Concat(whole(0, 0, api.KEnq, 1, 0), whole(0, 0, api.KDeq, 0, 2))
	good := slices.Concat(whole(0, 0, api.KEnq, 1, 0), whole(0, 0, api.KDeq, 0, 1))
	for range 3 {
		wantFind(t, types, l, least...)
		wantRight(t, types, l, true, other...)
		wantNone(t, q, bad)
		wantFind(t, q, good, step(0, 0), step(1, 1))
		wantRight(t, types, l, false, least[:4]...)
		wantError(t, q, l, api.ErrForm)
		wantError(t, tickets(1), takeTurns(10, 2, 1), api.ErrLarge)
	}
}

// P5: the error of history.Calls comes first, each in its place.
func TestErrorsOfCalls(t *testing.T) {
	types, l, _, _ := sample()
	for _, bad := range [][]int{nil, {0}, {6}, {1, 2, 3, 4, 5}, {1, -1}} {
		wantError(t, bad, nil, api.ErrArg)
		wantError(t, bad, l, api.ErrArg)
		wantError(t, bad, takeTurns(101, 1, 1), api.ErrArg)
	}
	wantError(t, tickets(1), slices.Repeat([]api.Event{end(9, 9, 9)}, 201), api.ErrLarge)
	for _, c := range []struct {
		event api.Event
		want  api.Errno
	}{
		{call(8, 1, api.KRead, 0), api.ErrForm},
		{call(-1, 1, api.KRead, 0), api.ErrForm},
		{call(5, 4, api.KRead, 0), api.ErrForm},
		{end(5, 0, 0), api.ErrNone},
		{end(2, 1, 0), api.ErrForm},
		{end(2, 2, 1001), api.ErrForm},
		{call(5, 1, api.KTake, 0), api.ErrForm},
		{call(5, 1, api.KWrite, 0), api.ErrForm},
		{call(2, 2, api.KTake, 0), api.ErrTwice},
	} {
		wantError(t, types, append(slices.Clone(l), c.event), c.want)
		// There are more than 9 operations before the invalid event, or after it.
		many := slices.Concat(whole(0, 3, api.KHas, 1, 0), whole(0, 3, api.KHas, 1, 0), whole(0, 3, api.KHas, 1, 0))
		wantError(t, types, slices.Concat(l, many, []api.Event{c.event}), c.want)
		wantError(t, types, slices.Concat(l, []api.Event{c.event}, many), c.want)
	}
}

// P5: there may be 9 operations, with or without responses, of one object or several.
func TestLimit(t *testing.T) {
	for whos := 1; whos <= api.MaxWho; whos++ {
		for things := 1; things <= api.MaxThings; things++ {
			nine := takeTurns(9, whos, things)
			var w []api.Step
			for i := range 9 {
				w = append(w, step(i, i/things))
			}
			wantFind(t, tickets(things), nine, w...)
			wantRight(t, tickets(things), nine, false, w[:8]...)
			wantFind(t, tickets(things), nine[:17], w[:8]...)
			wantError(t, tickets(things), takeTurns(10, whos, things), api.ErrLarge)
			wantError(t, tickets(things), takeTurns(10, whos, things)[:19], api.ErrLarge)
			wantError(t, tickets(things), takeTurns(100, whos, things), api.ErrLarge)
		}
	}
}

// P5.1, P5.2: without operations, the empty witness is the only one.
func TestNoOperations(t *testing.T) {
	for typ := api.TReg; typ <= api.TTicket; typ++ {
		for _, types := range [][]int{{typ}, {typ, typ, typ, typ}} {
			for _, l := range [][]api.Event{nil, {}} {
				wantFind(t, types, l)
				wantRight(t, types, l, false, step(0, 0))
				wantRight(t, types, l, false, step(-1, 0))
			}
		}
	}
}

// P5.1: a witness contains every operation with a response exactly once.
func TestAnswered(t *testing.T) {
	l := []api.Event{call(0, 0, api.KRead, 0), call(1, 0, api.KRead, 0), end(1, 0, 0), end(0, 0, 0)}
	types := []int{api.TReg}
	wantRight(t, types, l, true, step(0, 0), step(1, 0))
	wantRight(t, types, l, true, step(1, 0), step(0, 0))
	wantRight(t, types, l, false)
	for i := range 2 {
		wantRight(t, types, l, false, step(i, 0))
		wantRight(t, types, l, false, step(i, 0), step(i, 0))
		for j := range 2 {
			wantRight(t, types, l, false, step(i, 0), step(1-i, 0), step(j, 0))
		}
	}
}

// P5.1: the result of an operation with a response is the one of the response, and the one of Play.
func TestResults(t *testing.T) {
	for _, c := range []struct{ typ, kind, arg, result, other int }{
		{api.TReg, api.KWrite, 7, 0, 7},
		{api.TReg, api.KRead, 0, 0, 1},
		{api.TQueue, api.KEnq, 7, 0, 7},
		{api.TQueue, api.KDeq, 0, -1, 1},
		{api.TStack, api.KPush, 7, 0, 7},
		{api.TStack, api.KPop, 0, -1, 1},
		{api.TSet, api.KAdd, 7, 1, 0},
		{api.TSet, api.KRemove, 7, 0, 1},
		{api.TSet, api.KHas, 7, 0, 1},
		{api.TTicket, api.KTake, 0, 0, 1},
	} {
		types := []int{c.typ}
		l := whole(3, 0, c.kind, c.arg, c.result)
		wantFind(t, types, l, step(0, c.result))
		wantRight(t, types, l, false, step(0, c.other))
		for _, n := range extremes {
			wantRight(t, types, l, n == c.result, step(0, n))
			wantRight(t, types, l[:1], n == c.result, step(0, n))
		}
		if c.kind != api.KWrite && c.kind != api.KEnq && c.kind != api.KPush {
			wrong := whole(3, 0, c.kind, c.arg, c.other)
			wantNone(t, types, wrong)
			wantRight(t, types, wrong, false, step(0, c.other))
			wantRight(t, types, wrong, false, step(0, c.result))
			wantRight(t, types, wrong, false)
		}
	}
}

// P5.1: a witness contains every other operation at most once, with the result of Play.
func TestPending(t *testing.T) {
	types := []int{api.TTicket}
	l := []api.Event{call(0, 0, api.KTake, 0), call(1, 0, api.KTake, 0), call(2, 0, api.KTake, 0), end(1, 0, 1)}
	wantFind(t, types, l, step(0, 0), step(1, 1))
	wantRight(t, types, l, true, step(2, 0), step(1, 1))
	wantRight(t, types, l, true, step(2, 0), step(1, 1), step(0, 2))
	wantRight(t, types, l, true, step(0, 0), step(1, 1), step(2, 2))
	wantRight(t, types, l, false, step(1, 1))
	wantRight(t, types, l, false, step(1, 0), step(0, 1))
	wantRight(t, types, l, false, step(0, 0), step(2, 1), step(1, 2))
	wantRight(t, types, l, false, step(0, 0), step(0, 1), step(1, 2))
	wantRight(t, types, l, false, step(0, 0), step(1, 1), step(0, 2))
	wantRight(t, types, l, false, step(0, 0), step(1, 1), step(2, 2), step(2, 3))
	wantRight(t, types, l, false, step(0, 0), step(1, 1), step(2, 1))
	wantRight(t, types, l, false, step(0, 1), step(1, 1))
	wantRight(t, types, l, false, step(0, 0), step(2, 2))
}

// P5.1: a step names an operation that exists.
func TestNoSuchOperation(t *testing.T) {
	types, l, least, _ := sample()
	for _, n := range extremes {
		if 0 <= n && n < 7 {
			continue
		}
		for at := range len(least) + 1 {
			for _, result := range []int{-1, 0, 1} {
				wantRight(t, types, l, false, slices.Insert(slices.Clone(least), at, step(n, result))...)
			}
			if at < len(least) {
				changed := slices.Clone(least)
				changed[at].Call = n
				wantRight(t, types, l, false, changed...)
			}
		}
	}
}

// P5.1: no operation comes after one that it precedes, of the same object or of another one.
func TestRealTime(t *testing.T) {
	for _, c := range []struct {
		types []int
		thing int
	}{{[]int{api.TReg}, 0}, {[]int{api.TReg, api.TReg}, 1}} {
		apart := slices.Concat(whole(0, 0, api.KRead, 0, 0), whole(1, c.thing, api.KRead, 0, 0))
		wantFind(t, c.types, apart, step(0, 0), step(1, 0))
		wantRight(t, c.types, apart, false, step(1, 0), step(0, 0))
		// Without a response an operation precedes none, but it is preceded as others are.
		wantFind(t, c.types, apart[:3], step(0, 0))
		wantRight(t, c.types, apart[:3], true, step(0, 0), step(1, 0))
		wantRight(t, c.types, apart[:3], false, step(1, 0), step(0, 0))
		wantRight(t, c.types, apart[:3], false, step(1, 0))
		late := []api.Event{apart[0], apart[2], apart[3]}
		wantFind(t, c.types, late, step(0, 0), step(1, 0))
		wantRight(t, c.types, late, true, step(1, 0), step(0, 0))
		wantRight(t, c.types, late, true, step(1, 0))
		meeting := []api.Event{apart[0], apart[2], apart[1], apart[3]}
		wantFind(t, c.types, meeting, step(0, 0), step(1, 0))
		wantRight(t, c.types, meeting, true, step(1, 0), step(0, 0))
	}
	// The first operation overlaps with the second one, and only this one with the third one.
	types := []int{api.TReg, api.TQueue, api.TStack}
	l := []api.Event{
		call(0, 0, api.KWrite, 1), call(1, 1, api.KEnq, 1), end(0, 0, 0),
		call(0, 2, api.KPush, 1), end(1, 1, 0), end(0, 2, 0),
	}
	for _, c := range [][4]int{{0, 1, 2, 1}, {0, 2, 1, 1}, {1, 0, 2, 1}, {1, 2, 0, 0}, {2, 0, 1, 0}, {2, 1, 0, 0}} {
		wantRight(t, types, l, c[3] == 1, step(c[0], 0), step(c[1], 0), step(c[2], 0))
	}
}

// P5.1: each object has a state of its own; steps of different objects may be mixed.
func TestObjects(t *testing.T) {
	types := []int{api.TStack, api.TQueue}
	l := []api.Event{
		call(0, 0, api.KPush, 1), call(1, 1, api.KEnq, 1), call(2, 0, api.KPush, 2), call(3, 1, api.KEnq, 2),
		call(4, 0, api.KPop, 0), call(5, 1, api.KDeq, 0),
		end(0, 0, 0), end(1, 1, 0), end(2, 0, 0), end(3, 1, 0), end(4, 0, 2), end(5, 1, 2),
	}
	wantFind(t, types, l, step(0, 0), step(2, 0), step(3, 0), step(1, 0), step(4, 2), step(5, 2))
	wantRight(t, types, l, true, step(3, 0), step(5, 2), step(1, 0), step(0, 0), step(2, 0), step(4, 2))
	wantRight(t, types, l, true, step(2, 0), step(3, 0), step(4, 2), step(5, 2), step(1, 0), step(0, 0))
	wantRight(t, types, l, false, step(1, 0), step(0, 0), step(2, 0), step(3, 0), step(4, 2), step(5, 2))
	wantRight(t, types, l, false, step(2, 0), step(0, 0), step(3, 0), step(1, 0), step(4, 2), step(5, 2))
	wantRight(t, types, l, false, step(3, 0), step(1, 0), step(4, 2), step(5, 2), step(0, 0), step(2, 0))
}

// P5.1: the rows of a queue and of a stack, the elements of a set and the count are those of Play.
func TestPlay(t *testing.T) {
	for _, c := range []struct {
		typ, put, take int
		results        [2]int
	}{
		{api.TQueue, api.KEnq, api.KDeq, [2]int{1, 2}},
		{api.TStack, api.KPush, api.KPop, [2]int{2, 1}},
	} {
		types := []int{c.typ}
		puts := slices.Concat(whole(0, 0, c.put, 1, 0), whole(0, 0, c.put, 2, 0))
		for _, r := range [][3]int{{1, 2, -1}, {2, 1, -1}, {1, 1, -1}, {1, -1, 2}, {-1, 1, 2}, {1, 2, 2}} {
			l := slices.Clone(puts)
			w := []api.Step{step(0, 0), step(1, 0)}
			for i, result := range r {
				l = append(l, whole(0, 0, c.take, 0, result)...)
				w = append(w, step(i+2, result))
			}
			if [2]int(r[:2]) == c.results && r[2] == -1 {
				wantFind(t, types, l, w...)
			} else {
				wantNone(t, types, l)
				wantRight(t, types, l, false, w...)
			}
		}
	}
	set := slices.Concat(whole(0, 0, api.KAdd, 4, 1), whole(0, 0, api.KAdd, 4, 0), whole(0, 0, api.KHas, 4, 1),
		whole(0, 0, api.KHas, 5, 0), whole(0, 0, api.KRemove, 4, 1), whole(0, 0, api.KRemove, 4, 0), whole(0, 0, api.KHas, 4, 0))
	w := []api.Step{step(0, 1), step(1, 0), step(2, 1), step(3, 0), step(4, 1), step(5, 0), step(6, 0)}
	wantFind(t, []int{api.TSet}, set, w...)
	for i := range w {
		changed := slices.Clone(set)
		changed[2*i+1].Value = 1 - changed[2*i+1].Value
		wantNone(t, []int{api.TSet}, changed)
	}
}

// P5.2: the example of the document, and what it leads to.
func TestPendingWrite(t *testing.T) {
	types := []int{api.TReg}
	write, read := call(0, 0, api.KWrite, 5), whole(1, 0, api.KRead, 0, 5)
	wantFind(t, types, append([]api.Event{write}, read...), step(0, 0), step(1, 5))
	wantFind(t, types, []api.Event{read[0], write, read[1]}, step(1, 0), step(0, 5))
	wantNone(t, types, append(slices.Clone(read), write))
	wantNone(t, types, read)
	wantNone(t, types, slices.Concat([]api.Event{write}, read, whole(1, 0, api.KRead, 0, 0)))
	wantFind(t, types, slices.Concat([]api.Event{write}, whole(1, 0, api.KRead, 0, 0), read), step(1, 0), step(0, 0), step(2, 5))
}

// P5.2: a read overlaps with a write, and so it returns the value before it or after it.
func TestOverlap(t *testing.T) {
	types := []int{api.TReg}
	for result, want := range map[int][]api.Step{
		5: {step(0, 0), step(1, 0), step(2, 5)},
		3: {step(0, 0), step(2, 3), step(1, 0)},
		0: nil,
		4: nil,
	} {
		l := slices.Concat(whole(0, 0, api.KWrite, 3, 0), []api.Event{call(0, 0, api.KWrite, 5)},
			whole(1, 0, api.KRead, 0, result), []api.Event{end(0, 0, 0)})
		if want != nil {
			wantFind(t, types, l, want...)
		} else {
			wantNone(t, types, l)
		}
	}
	// New values are not forgotten again.
	l := slices.Concat([]api.Event{call(0, 0, api.KWrite, 5)}, whole(1, 0, api.KRead, 0, 5), whole(2, 0, api.KRead, 0, 0), []api.Event{end(0, 0, 0)})
	wantNone(t, types, l)
}

// P5.2: an operation without a response that is smaller than the next one comes before it, if it may.
func TestSmallPending(t *testing.T) {
	q := []int{api.TQueue}
	l := slices.Concat([]api.Event{call(0, 0, api.KDeq, 0)}, whole(1, 0, api.KEnq, 7, 0), whole(1, 0, api.KDeq, 0, 7))
	wantFind(t, q, l, step(0, -1), step(1, 0), step(2, 7))
	wantRight(t, q, l, true, step(1, 0), step(2, 7))
	wantRight(t, q, l, true, step(1, 0), step(2, 7), step(0, -1))
	l[4].Value = -1
	wantFind(t, q, l, step(1, 0), step(0, 7), step(2, -1))
	r := []int{api.TReg}
	l = slices.Concat([]api.Event{call(0, 0, api.KRead, 0)}, whole(1, 0, api.KWrite, 7, 0))
	wantFind(t, r, l, step(0, 0), step(1, 0))
	l = slices.Concat([]api.Event{call(0, 0, api.KWrite, 3)}, whole(1, 0, api.KRead, 0, 0), whole(1, 0, api.KRead, 0, 0))
	wantFind(t, r, l, step(1, 0), step(2, 0))
}

// P5.2: a witness that ends is smaller than one that continues.
func TestEnd(t *testing.T) {
	for typ, kind := range map[int]int{api.TReg: api.KRead, api.TTicket: api.KTake} {
		var l []api.Event
		for who := range api.MaxWho {
			l = append(l, call(who, 0, kind, 0))
		}
		wantFind(t, []int{typ}, l)
		wantRight(t, []int{typ}, l, true, step(3, 0))
		l = append(l, end(0, 0, 0), call(0, 0, kind, 0))
		wantFind(t, []int{typ}, l, step(0, 0))
	}
	r := []int{api.TReg}
	l := append(whole(0, 0, api.KWrite, 5, 0), call(1, 0, api.KRead, 0))
	wantFind(t, r, l, step(0, 0))
	wantRight(t, r, l, true, step(0, 0), step(1, 5))
	wantRight(t, r, l, false, step(0, 0), step(1, 0))
}

// P5.2: of operations without responses, those that are needed are there, with their results.
func TestNeeded(t *testing.T) {
	var l []api.Event
	for who := range 7 {
		l = append(l, call(who, 0, api.KEnq, who+1))
	}
	l = append(l, whole(7, 0, api.KDeq, 0, 5)...)
	wantFind(t, []int{api.TQueue}, l, step(4, 0), step(0, 0), step(1, 0), step(2, 0), step(3, 0), step(5, 0), step(6, 0), step(7, 5))
	wantRight(t, []int{api.TQueue}, l, true, step(4, 0), step(7, 5))
	for i := range l[:7] {
		l[i].Kind = api.KPush
	}
	l[7].Kind = api.KPop
	wantFind(t, []int{api.TStack}, l, step(0, 0), step(1, 0), step(2, 0), step(3, 0), step(4, 0), step(7, 5))
	set := []api.Event{call(0, 0, api.KAdd, 3), call(1, 0, api.KAdd, 3), call(2, 0, api.KRemove, 3), call(3, 0, api.KAdd, 3), end(3, 0, 1)}
	wantFind(t, []int{api.TSet}, set, step(0, 1), step(1, 0), step(2, 1), step(3, 1))
	count := []api.Event{call(0, 0, api.KTake, 0), call(1, 0, api.KTake, 0), call(2, 0, api.KTake, 0), end(2, 0, 1)}
	wantFind(t, []int{api.TTicket}, count, step(0, 0), step(2, 1))
}

// P5.2: the same operations lead to different states, of one object or of two, and only one of them is of use.
func TestOrders(t *testing.T) {
	q := []int{api.TQueue}
	enqs := []api.Event{call(0, 0, api.KEnq, 1), call(1, 0, api.KEnq, 11), end(0, 0, 0), end(1, 0, 0)}
	wantFind(t, q, slices.Concat(enqs, whole(0, 0, api.KDeq, 0, 1)), step(0, 0), step(1, 0), step(2, 1))
	wantFind(t, q, slices.Concat(enqs, whole(0, 0, api.KDeq, 0, 11)), step(1, 0), step(0, 0), step(2, 11))
	wantFind(t, q, slices.Concat(enqs, whole(0, 0, api.KDeq, 0, 11), whole(1, 0, api.KDeq, 0, 1)),
		step(1, 0), step(0, 0), step(2, 11), step(3, 1))
	wantNone(t, q, slices.Concat(enqs, whole(0, 0, api.KDeq, 0, 11), whole(1, 0, api.KDeq, 0, 11)))
	// By the same four operations either queue can get empty while the other one does not.
	two := []int{api.TQueue, api.TQueue}
	l := []api.Event{call(0, 0, api.KDeq, 0), call(1, 0, api.KEnq, 1), call(2, 1, api.KDeq, 0), call(3, 1, api.KEnq, 1), end(1, 0, 0), end(3, 1, 0)}
	for _, c := range []struct {
		first, second int
		want          []api.Step
	}{
		{1, 1, []api.Step{step(0, -1), step(1, 0), step(2, -1), step(3, 0)}},
		{1, -1, []api.Step{step(0, -1), step(1, 0), step(3, 0), step(2, 1)}},
		{-1, 1, []api.Step{step(1, 0), step(0, 1), step(2, -1), step(3, 0)}},
		{-1, -1, []api.Step{step(1, 0), step(0, 1), step(3, 0), step(2, 1)}},
	} {
		deqs := append(whole(1, 0, api.KDeq, 0, c.first), whole(3, 1, api.KDeq, 0, c.second)...)
		wantFind(t, two, slices.Concat(l, deqs), append(c.want, step(4, c.first), step(5, c.second))...)
	}
}

// P5.2: a history of four types, with operations without responses that are needed or not.
func TestSample(t *testing.T) {
	types, l, least, other := sample()
	wantFind(t, types, l, least...)
	wantRight(t, types, l, true, other...)
	wantRight(t, types, l, true, append(slices.Clone(least), step(6, 1))...)
	// Without one of the steps, or with two in another order.
	for i := range least {
		wantRight(t, types, l, least[i].Call == 3, slices.Delete(slices.Clone(least), i, i+1)...)
		for j := range i {
			changed := slices.Clone(least)
			changed[i], changed[j] = changed[j], changed[i]
			// The ticket that nobody got may be taken at any later time.
			wantRight(t, types, l, j == 3 && i == 4, changed...)
		}
	}
}

// P1, P5.2: most operations overlap, most orders lead to different states, and there is no linearization.
func TestHard(t *testing.T) {
	for _, c := range []struct{ typ, put, putResult, get, getArg, getResult int }{
		{api.TReg, api.KWrite, 0, api.KRead, 0, 9},
		{api.TQueue, api.KEnq, 0, api.KDeq, 0, 9},
		{api.TStack, api.KPush, 0, api.KPop, 0, 9},
		{api.TSet, api.KAdd, 1, api.KHas, 9, 1},
	} {
		var l []api.Event
		for who := range api.MaxWho {
			l = append(l, call(who, 0, c.put, 10+who))
		}
		l = append(l, end(3, 0, c.putResult))
		l = append(l, whole(3, 0, c.get, c.getArg, c.getResult)...)
		wantNone(t, []int{c.typ}, l)
	}
}

// P5: Calls returns the operations of a history of up to 9 operations.
func TestCalls(t *testing.T) {
	types, l, _, _ := sample()
	want, _, _ := history.Calls(types, l)
	if calls, e := Calls(types, l); !slices.Equal(calls, want) || e != api.OK {
		t.Errorf("Calls(%v, %v) = %v, %d; want %v, 0", types, l, calls, e, want)
	}
	nine := takeTurns(9, 3, 1)
	want, _, _ = history.Calls(tickets(1), nine)
	if calls, e := Calls(tickets(1), nine); len(calls) != 9 || !slices.Equal(calls, want) || e != api.OK {
		t.Errorf("Calls(%v, %v) = %v, %d; want %v, 0", tickets(1), nine, calls, e, want)
	}
}

// P5: another relation is in the place of the real-time order, with all other conditions as they are.
func TestOtherOrders(t *testing.T) {
	types := []int{api.TReg}
	l := slices.Concat(whole(0, 0, api.KWrite, 5, 0), whole(1, 0, api.KRead, 0, 0), whole(2, 0, api.KRead, 0, 5))
	for _, c := range []struct {
		after [api.MaxItems]uint16
		want  []api.Step
	}{
		{[api.MaxItems]uint16{}, []api.Step{step(1, 0), step(0, 0), step(2, 5)}},
		{[api.MaxItems]uint16{1: 1 << 0}, []api.Step{step(1, 0), step(0, 0), step(2, 5)}},
		{[api.MaxItems]uint16{1: 1<<0 | 1<<2}, []api.Step{step(1, 0), step(0, 0), step(2, 5)}},
		{[api.MaxItems]uint16{0: 1 << 1}, nil},
		{[api.MaxItems]uint16{2: 1 << 0}, nil},
		{[api.MaxItems]uint16{2: 1 << 1}, nil},
		{[api.MaxItems]uint16{0: 1 << 2, 2: 1 << 0}, nil},
	} {
		ahead := api.Rel{N: 3, After: c.after}
		w, is, e := FindIn(types, l, ahead)
		if !slices.Equal(w, c.want) || is != (c.want != nil) || e != api.OK {
			t.Errorf("FindIn(%v, %v, %v) = %v, %v, %d; want %v", types, l, ahead, w, is, e, c.want)
		}
		is, e = RightIn(types, l, ahead, []api.Step{step(1, 0), step(0, 0), step(2, 5)})
		if is != (c.want != nil) || e != api.OK {
			t.Errorf("RightIn(%v, %v, %v, ...) = %v, %d", types, l, ahead, is, e)
		}
		if is, e := RightIn(types, l, ahead, []api.Step{step(1, 0), step(0, 0)}); is || e != api.OK {
			t.Errorf("RightIn(%v, %v, %v, ...) = %v, %d", types, l, ahead, is, e)
		}
	}
}
