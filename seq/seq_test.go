package seq

import (
	"math"
	"slices"
	"testing"

	"alibi/api"
	"alibi/history"
	"alibi/search"
)

// extremes are values around the ends of all ranges.
var extremes = []int{
	math.MinInt, math.MinInt + 1, -65536, -64, -16, -2, -1, 0, 1, 2, 3, 4, 5, 6, 7, 8, 9, 10, 11,
	15, 16, 17, 31, 32, 63, 64, 65, 127, 128, 255, 256, 257, 999, 1000, 1001, 65535, 65536, 1 << 32, math.MaxInt - 1, math.MaxInt,
}

// call returns the event by which a process calls an operation.
func call(who, thing, kind, value int) api.Event {
	return api.Event{Who: who, Thing: thing, Kind: kind, Value: value}
}

// end returns the event by which a process gets a response.
func end(who, thing, value int) api.Event {
	return api.Event{Who: who, Thing: thing, Kind: api.KEnd, Value: value}
}

// whole returns the two events of an operation that overlaps with no other one.
func whole(who, thing, kind, value, result int) []api.Event {
	return []api.Event{call(who, thing, kind, value), end(who, thing, result)}
}

// step returns a step of a witness.
func step(call, result int) api.Step {
	return api.Step{Call: call, Res: result}
}

func wantRight(t *testing.T, types []int, l []api.Event, want bool, w ...api.Step) {
	t.Helper()
	if is, e := Right(types, l, w); is != want || e != api.OK {
		t.Errorf("Right(%v, %v, %v) = %v, %d; want %v, 0", types, l, w, is, e, want)
	}
}

// wantFind checks that Find returns the steps, and that Right accepts them.
func wantFind(t *testing.T, types []int, l []api.Event, want ...api.Step) {
	t.Helper()
	if w, is, e := Find(types, l); !slices.Equal(w, want) || !is || e != api.OK {
		t.Errorf("Find(%v, %v) = %v, %v, %d; want %v, true, 0", types, l, w, is, e, want)
	}
	wantRight(t, types, l, true, want...)
}

// wantNoFind checks that Find finds nothing, and returns nothing.
func wantNoFind(t *testing.T, types []int, l []api.Event) {
	t.Helper()
	if w, is, e := Find(types, l); w != nil || is || e != api.OK {
		t.Errorf("Find(%v, %v) = %v, %v, %d; want nil, false, 0", types, l, w, is, e)
	}
}

func wantCalm(t *testing.T, types []int, l []api.Event, want ...int) {
	t.Helper()
	if epochs, e := Calm(types, l); !slices.Equal(epochs, want) || e != api.OK {
		t.Errorf("Calm(%v, %v) = %v, %d; want %v, 0", types, l, epochs, e, want)
	}
}

func wantQuiet(t *testing.T, types []int, l []api.Event, want ...api.Step) {
	t.Helper()
	if w, is, e := Quiet(types, l); !slices.Equal(w, want) || !is || e != api.OK {
		t.Errorf("Quiet(%v, %v) = %v, %v, %d; want %v, true, 0", types, l, w, is, e, want)
	}
}

// wantNoQuiet checks that Quiet finds nothing, and returns nothing.
func wantNoQuiet(t *testing.T, types []int, l []api.Event) {
	t.Helper()
	if w, is, e := Quiet(types, l); w != nil || is || e != api.OK {
		t.Errorf("Quiet(%v, %v) = %v, %v, %d; want nil, false, 0", types, l, w, is, e)
	}
}

// wantError checks that all functions return the error and no more, whatever the witness is.
func wantError(t *testing.T, types []int, l []api.Event, want api.Errno) {
	t.Helper()
	if w, is, e := Find(types, l); w != nil || is || e != want {
		t.Errorf("Find(%v, %v) = %v, %v, %d; want nil, false, %d", types, l, w, is, e, want)
	}
	if w, is, e := Quiet(types, l); w != nil || is || e != want {
		t.Errorf("Quiet(%v, %v) = %v, %v, %d; want nil, false, %d", types, l, w, is, e, want)
	}
	if epochs, e := Calm(types, l); epochs != nil || e != want {
		t.Errorf("Calm(%v, %v) = %v, %d; want nil, %d", types, l, epochs, e, want)
	}
	for _, w := range [][]api.Step{nil, {step(0, 0)}, {step(-1, 0)}, {step(99, 0)}, make([]api.Step, 10)} {
		if is, e := Right(types, l, w); is || e != want {
			t.Errorf("Right(%v, %v, %v) = %v, %d; want false, %d", types, l, w, is, e, want)
		}
	}
}

// wantLinear checks whether the history is linearizable.
func wantLinear(t *testing.T, types []int, l []api.Event, want bool) {
	t.Helper()
	if _, is, e := search.Find(types, l); is != want || e != api.OK {
		t.Errorf("search.Find(%v, %v): %v, %d; want %v, 0", types, l, is, e, want)
	}
}

// A sampleCase is a history with what the functions return for it.
type sampleCase struct {
	types          []int
	l              []api.Event
	epochs         []int
	inOrder, quiet []api.Step
}

// sample returns a history of four types that is not linearizable, with a
// response that depends on an operation without a response.
func sample() sampleCase {
	return sampleCase{
		types: []int{api.TQueue, api.TReg, api.TTicket, api.TSet},
		l: []api.Event{
			call(0, 1, api.KWrite, 8),
			end(0, 1, 0),
			call(1, 0, api.KDeq, 0),
			call(2, 2, api.KTake, 0),
			end(2, 2, 1),
			call(2, 1, api.KRead, 0),
			call(3, 2, api.KTake, 0),
			end(3, 2, 0),
			end(2, 1, 8),
			call(0, 0, api.KEnq, 5),
			end(0, 0, 0),
			end(1, 0, 5),
			call(4, 3, api.KAdd, 6),
			call(3, 3, api.KHas, 6),
			end(3, 3, 1),
		},
		epochs:  []int{0, 1, 1, 1, 1, 1, 2, 2},
		inOrder: []api.Step{step(0, 0), step(4, 0), step(2, 1), step(3, 8), step(5, 0), step(1, 5), step(6, 1), step(7, 1)},
		quiet:   []api.Step{step(0, 0), step(3, 8), step(4, 0), step(2, 1), step(5, 0), step(1, 5), step(6, 1), step(7, 1)},
	}
}

func wantSample(t *testing.T, s sampleCase) {
	t.Helper()
	wantFind(t, s.types, s.l, s.inOrder...)
	wantRight(t, s.types, s.l, false, s.quiet...)
	wantCalm(t, s.types, s.l, s.epochs...)
	wantQuiet(t, s.types, s.l, s.quiet...)
	wantLinear(t, s.types, s.l, false)
}

// takeTurns returns the events of n operations, by which some processes in turn take tickets from some objects.
func takeTurns(n, whos, things int) []api.Event {
	var l []api.Event
	for i := range n {
		l = append(l, whole(i%whos, i%things, api.KTake, 0, i/things)...)
	}
	return l
}

// tickets returns the types of ticket counters.
func tickets(n int) []int {
	return slices.Repeat([]int{api.TTicket}, n)
}

// P1: no function panics or runs forever, whatever an argument is.
func TestAnyArgument(t *testing.T) {
	s := sample()
	all := func(types []int, l []api.Event, w []api.Step) {
		Right(types, l, w)
		Find(types, l)
		Calm(types, l)
		Quiet(types, l)
	}
	for _, n := range extremes {
		for _, m := range extremes {
			all([]int{n, m}, s.l, s.inOrder)
			all(s.types, []api.Event{call(n, m, api.KTake, 0), end(n, m, 0)}, s.inOrder)
			all(s.types, []api.Event{call(0, 1, n, m), end(0, 1, m)}, s.inOrder)
			Right(s.types, s.l, []api.Step{step(n, m), step(m, n)})
			Right(s.types, s.l, append(s.inOrder[:4:4], step(n, m)))
			for at := range s.l {
				changed := slices.Clone(s.l)
				changed[at].Value = n
				changed[at].Who = m
				all(s.types, changed, s.inOrder)
			}
		}
	}
	all(nil, nil, nil)
	all(make([]int, 100_000), make([]api.Event, 100_000), make([]api.Step, 100_000))
	all(s.types, slices.Repeat(s.l, 100_000), nil)
	Right(s.types, s.l, make([]api.Step, 100_000))
	Right(s.types, s.l, slices.Repeat(s.inOrder, 100_000))
}

// P2: the arguments, with their spare capacity, are as they were.
func TestArgumentsAreKept(t *testing.T) {
	s := sample()
	for _, w := range [][]api.Step{s.inOrder, s.quiet, s.inOrder[:3]} {
		manyTypes := append(slices.Clone(s.types), -11, -12)
		manyEvents := append(slices.Clone(s.l), end(-13, -14, -15), end(-16, -17, -18))
		manySteps := append(slices.Clone(w), step(-19, -20), step(-21, -22))
		types, l := manyTypes[:len(s.types)], manyEvents[:len(s.l)]
		Right(types, l, manySteps[:len(w)])
		Find(types, l)
		Calm(types, l)
		Quiet(types, l)
		if !slices.Equal(manyTypes, append(slices.Clone(s.types), -11, -12)) {
			t.Error(manyTypes)
		}
		if !slices.Equal(manyEvents, append(slices.Clone(s.l), end(-13, -14, -15), end(-16, -17, -18))) {
			t.Error(manyEvents)
		}
		if !slices.Equal(manySteps, append(slices.Clone(w), step(-19, -20), step(-21, -22))) {
			t.Error(manySteps)
		}
	}
}

// P2: overwriting one result, with its spare capacity, changes no other result.
func TestResultsAreNew(t *testing.T) {
	s := sample()
	for _, find := range []func([]int, []api.Event) ([]api.Step, bool, api.Errno){Find, Quiet} {
		first, _, _ := find(s.types, s.l)
		second, _, _ := find(s.types, s.l)
		want := slices.Clone(second)
		first = first[:cap(first)]
		for i := range first {
			first[i] = step(-99, -99)
		}
		if !slices.Equal(second, want) {
			t.Error(second)
		}
	}
	first, _ := Calm(s.types, s.l)
	second, _ := Calm(s.types, s.l)
	clear(first[:cap(first)])
	if !slices.Equal(second, s.epochs) {
		t.Error(second)
	}
	wantSample(t, s)
}

// P2: the results of a call do not depend on the calls before it.
func TestNoStateIsKept(t *testing.T) {
	s := sample()
	q := []int{api.TQueue}
	bad := slices.Concat(whole(0, 0, api.KEnq, 1, 0), whole(0, 0, api.KDeq, 0, 2))
	good := slices.Concat(whole(0, 0, api.KEnq, 1, 0), whole(0, 0, api.KDeq, 0, 1))
	for range 3 {
		wantSample(t, s)
		wantNoFind(t, q, bad)
		wantNoQuiet(t, q, bad)
		wantFind(t, q, good, step(0, 0), step(1, 1))
		wantQuiet(t, q, good, step(0, 0), step(1, 1))
		wantCalm(t, q, good, 0, 1)
		wantRight(t, s.types, s.l, false, s.inOrder[:4]...)
		wantError(t, q, s.l, api.ErrForm)
		wantError(t, tickets(1), takeTurns(10, 2, 1), api.ErrLarge)
	}
}

// P7: the error of history.Calls comes first, each in its place.
func TestErrorsOfCalls(t *testing.T) {
	s := sample()
	for _, bad := range [][]int{nil, {0}, {6}, {1, 2, 3, 4, 5}, {1, -1}} {
		wantError(t, bad, nil, api.ErrArg)
		wantError(t, bad, s.l, api.ErrArg)
		wantError(t, bad, takeTurns(101, 1, 1), api.ErrArg)
	}
	wantError(t, tickets(1), slices.Repeat([]api.Event{end(9, 9, 9)}, 201), api.ErrLarge)
	for _, c := range []struct {
		event api.Event
		want  api.Errno
	}{
		{call(8, 1, api.KRead, 0), api.ErrForm},
		{call(-1, 1, api.KRead, 0), api.ErrForm},
		{call(5, 4, api.KRead, 0), api.ErrForm},
		{end(5, 0, 0), api.ErrNone},
		{end(4, 1, 0), api.ErrForm},
		{end(4, 3, 2), api.ErrForm},
		{call(5, 1, api.KTake, 0), api.ErrForm},
		{call(5, 1, api.KWrite, 0), api.ErrForm},
		{call(4, 3, api.KAdd, 6), api.ErrTwice},
	} {
		wantError(t, s.types, append(slices.Clone(s.l), c.event), c.want)
		// There are more than 9 operations before the invalid event, or after it.
		many := slices.Concat(whole(0, 3, api.KHas, 1, 0), whole(0, 3, api.KHas, 1, 0))
		wantError(t, s.types, slices.Concat(s.l, many, []api.Event{c.event}), c.want)
		wantError(t, s.types, slices.Concat(s.l, []api.Event{c.event}, many), c.want)
	}
}

// P7: there may be 9 operations, with or without responses, of one object or several.
func TestLimit(t *testing.T) {
	epochs := []int{0, 1, 2, 3, 4, 5, 6, 7, 8}
	for whos := 1; whos <= api.MaxWho; whos++ {
		for things := 1; things <= api.MaxThings; things++ {
			nine := takeTurns(9, whos, things)
			var w []api.Step
			for i := range 9 {
				w = append(w, step(i, i/things))
			}
			wantCalm(t, tickets(things), nine, epochs...)
			wantQuiet(t, tickets(things), nine, w...)
			wantQuiet(t, tickets(things), nine[:17], w[:8]...)
			wantRight(t, tickets(things), nine, true, w...)
			wantRight(t, tickets(things), nine, false, w[:8]...)
			wantRight(t, tickets(things), nine[:17], true, w[:8]...)
			// With one object the results leave no other order.
			if things == 1 {
				wantFind(t, tickets(things), nine, w...)
				wantFind(t, tickets(things), nine[:17], w[:8]...)
			}
			wantError(t, tickets(things), takeTurns(10, whos, things), api.ErrLarge)
			wantError(t, tickets(things), takeTurns(10, whos, things)[:19], api.ErrLarge)
			wantError(t, tickets(things), takeTurns(100, whos, things), api.ErrLarge)
		}
	}
}

// P7.1, P7.2: without operations, the empty witness is the only one.
func TestNoOperations(t *testing.T) {
	for typ := api.TReg; typ <= api.TTicket; typ++ {
		for _, types := range [][]int{{typ}, {typ, typ, typ, typ}} {
			for _, l := range [][]api.Event{nil, {}} {
				wantFind(t, types, l)
				wantQuiet(t, types, l)
				wantCalm(t, types, l)
				wantRight(t, types, l, false, step(0, 0))
				wantRight(t, types, l, false, step(-1, 0))
			}
		}
	}
}

// P7.1: a witness contains every operation with a response exactly once.
func TestAnswered(t *testing.T) {
	l := slices.Concat(whole(0, 0, api.KRead, 0, 0), whole(1, 0, api.KRead, 0, 0))
	types := []int{api.TReg}
	wantRight(t, types, l, true, step(0, 0), step(1, 0))
	wantRight(t, types, l, true, step(1, 0), step(0, 0))
	wantRight(t, types, l, false)
	for i := range 2 {
		wantRight(t, types, l, false, step(i, 0))
		wantRight(t, types, l, false, step(i, 0), step(i, 0))
		for j := range 2 {
			wantRight(t, types, l, false, step(i, 0), step(1-i, 0), step(j, 0))
		}
	}
}

// P7.1, P7.2: the result of an operation with a response is the one of the response, and the one of Play.
func TestResults(t *testing.T) {
	for _, c := range []struct{ typ, kind, arg, result, other int }{
		{api.TReg, api.KWrite, 7, 0, 7},
		{api.TReg, api.KRead, 0, 0, 1},
		{api.TQueue, api.KEnq, 7, 0, 7},
		{api.TQueue, api.KDeq, 0, -1, 1},
		{api.TStack, api.KPush, 7, 0, 7},
		{api.TStack, api.KPop, 0, -1, 1},
		{api.TSet, api.KAdd, 7, 1, 0},
		{api.TSet, api.KRemove, 7, 0, 1},
		{api.TSet, api.KHas, 7, 0, 1},
		{api.TTicket, api.KTake, 0, 0, 1},
	} {
		types := []int{c.typ}
		l := whole(3, 0, c.kind, c.arg, c.result)
		wantFind(t, types, l, step(0, c.result))
		wantQuiet(t, types, l, step(0, c.result))
		for _, n := range extremes {
			wantRight(t, types, l, n == c.result, step(0, n))
			wantRight(t, types, l[:1], n == c.result, step(0, n))
		}
		if c.kind != api.KWrite && c.kind != api.KEnq && c.kind != api.KPush {
			wrong := whole(3, 0, c.kind, c.arg, c.other)
			wantNoFind(t, types, wrong)
			wantNoQuiet(t, types, wrong)
			wantRight(t, types, wrong, false, step(0, c.other))
			wantRight(t, types, wrong, false, step(0, c.result))
			wantRight(t, types, wrong, false)
		}
	}
}

// P7.1, P7.2: a witness contains every other operation at most once, with the result of Play.
func TestPending(t *testing.T) {
	types := []int{api.TTicket}
	l := []api.Event{call(0, 0, api.KTake, 0), call(1, 0, api.KTake, 0), call(2, 0, api.KTake, 0), end(1, 0, 1)}
	wantFind(t, types, l, step(0, 0), step(1, 1))
	wantQuiet(t, types, l, step(0, 0), step(1, 1))
	wantRight(t, types, l, true, step(2, 0), step(1, 1))
	wantRight(t, types, l, true, step(2, 0), step(1, 1), step(0, 2))
	wantRight(t, types, l, true, step(0, 0), step(1, 1), step(2, 2))
	wantRight(t, types, l, false, step(1, 1))
	wantRight(t, types, l, false, step(1, 0), step(0, 1))
	wantRight(t, types, l, false, step(0, 0), step(2, 1), step(1, 2))
	wantRight(t, types, l, false, step(0, 0), step(0, 1), step(1, 2))
	wantRight(t, types, l, false, step(0, 0), step(1, 1), step(0, 2))
	wantRight(t, types, l, false, step(0, 0), step(1, 1), step(2, 1))
	wantRight(t, types, l, false, step(0, 1), step(1, 1))
	wantRight(t, types, l, false, step(0, 0), step(2, 2))
	// One operation without a response is not enough for two tickets.
	l[3].Value = 3
	wantNoFind(t, types, l)
	wantNoQuiet(t, types, l)
}

// P7.1: a step names an operation that exists.
func TestNoSuchOperation(t *testing.T) {
	s := sample()
	for _, n := range extremes {
		if 0 <= n && n < len(s.epochs) {
			continue
		}
		for at := range len(s.inOrder) + 1 {
			for _, result := range []int{-1, 0, 1} {
				wantRight(t, s.types, s.l, false, slices.Insert(slices.Clone(s.inOrder), at, step(n, result))...)
			}
			if at < len(s.inOrder) {
				changed := slices.Clone(s.inOrder)
				changed[at].Call = n
				wantRight(t, s.types, s.l, false, changed...)
			}
		}
	}
}

// P7.1: the operations of a process stay in order, of one object or of several,
// with or without a response; those of different processes need not.
func TestProcessOrder(t *testing.T) {
	for _, c := range []struct {
		types []int
		thing int
	}{{[]int{api.TReg}, 0}, {[]int{api.TReg, api.TReg}, 1}} {
		for who := range api.MaxWho {
			l := slices.Concat(whole(0, 0, api.KRead, 0, 0), whole(who, c.thing, api.KRead, 0, 0))
			wantFind(t, c.types, l, step(0, 0), step(1, 0))
			wantRight(t, c.types, l, who != 0, step(1, 0), step(0, 0))
			wantFind(t, c.types, l[:3], step(0, 0))
			wantRight(t, c.types, l[:3], true, step(0, 0), step(1, 0))
			wantRight(t, c.types, l[:3], who != 0, step(1, 0), step(0, 0))
			wantRight(t, c.types, l[:3], false, step(1, 0))
		}
	}
	// Not only neighbors are in order.
	types := []int{api.TReg, api.TQueue, api.TStack}
	l := slices.Concat(whole(4, 0, api.KWrite, 1, 0), whole(5, 1, api.KEnq, 1, 0), whole(4, 2, api.KPush, 1, 0), whole(4, 1, api.KEnq, 2, 0))
	for _, c := range [][5]int{{0, 2, 3, 1, 1}, {1, 0, 2, 3, 1}, {0, 1, 2, 3, 1}, {0, 3, 2, 1, 0}, {3, 0, 2, 1, 0}, {2, 0, 1, 3, 0}, {3, 1, 2, 0, 0}} {
		wantRight(t, types, l, c[4] == 1, step(c[0], 0), step(c[1], 0), step(c[2], 0), step(c[3], 0))
	}
}

// P7.1: an old value after a completed write violates linearizability, but not sequential consistency.
func TestOldValue(t *testing.T) {
	types := []int{api.TReg}
	l := slices.Concat(whole(0, 0, api.KWrite, 5, 0), whole(1, 0, api.KRead, 0, 0))
	wantLinear(t, types, l, false)
	wantFind(t, types, l, step(1, 0), step(0, 0))
	wantRight(t, types, l, false, step(0, 0), step(1, 0))
	wantNoQuiet(t, types, l)
	// The process that wrote it can't read an old value.
	own := slices.Concat(whole(0, 0, api.KWrite, 5, 0), whole(0, 0, api.KRead, 0, 0))
	wantNoFind(t, types, own)
	wantNoQuiet(t, types, own)
	// Nor can the value that a process reads become an old one again.
	again := slices.Concat(l, whole(1, 0, api.KRead, 0, 5), whole(1, 0, api.KRead, 0, 0))
	wantFind(t, types, again[:6], step(1, 0), step(0, 0), step(2, 5))
	wantNoFind(t, types, again)
	// Two processes can't see two writes in different orders.
	twice := slices.Concat(whole(0, 0, api.KWrite, 1, 0), whole(1, 0, api.KWrite, 2, 0),
		whole(2, 0, api.KRead, 0, 1), whole(3, 0, api.KRead, 0, 2), whole(2, 0, api.KRead, 0, 2))
	wantFind(t, types, twice, step(0, 0), step(2, 1), step(1, 0), step(3, 2), step(4, 2))
	wantNoFind(t, types, append(twice, whole(3, 0, api.KRead, 0, 1)...))
}

// P7.1: for sequential consistency it does not suffice that the history of each object has a witness.
func TestNotLocal(t *testing.T) {
	types := []int{api.TQueue, api.TQueue}
	l := slices.Concat(
		whole(0, 0, api.KEnq, 1, 0), whole(1, 1, api.KEnq, 2, 0),
		whole(0, 1, api.KEnq, 1, 0), whole(1, 0, api.KEnq, 2, 0),
		whole(0, 0, api.KDeq, 0, 2), whole(1, 1, api.KDeq, 0, 1),
	)
	wantNoFind(t, types, l)
	first, _ := history.Part(types, l, 0)
	wantFind(t, types, first, step(1, 0), step(0, 0), step(2, 2))
	second, _ := history.Part(types, l, 1)
	wantFind(t, types, second, step(1, 0), step(0, 0), step(2, 1))
	// Whoever goes first, the other one's element is the second one.
	l[9].Value = 1
	wantFind(t, types, l, step(0, 0), step(2, 0), step(1, 0), step(3, 0), step(4, 1), step(5, 1))
}

// P7.1, P7.2: a witness that ends is smaller than one that continues.
func TestEnd(t *testing.T) {
	for typ, kind := range map[int]int{api.TReg: api.KRead, api.TTicket: api.KTake} {
		var l []api.Event
		for who := range api.MaxWho {
			l = append(l, call(who, 0, kind, 0))
		}
		wantFind(t, []int{typ}, l)
		wantQuiet(t, []int{typ}, l)
		wantCalm(t, []int{typ}, l, make([]int, 8)...)
		wantRight(t, []int{typ}, l, true, step(3, 0))
		l = append(l, end(0, 0, 0), call(0, 0, kind, 0))
		wantFind(t, []int{typ}, l, step(0, 0))
		wantQuiet(t, []int{typ}, l, step(0, 0))
		wantCalm(t, []int{typ}, l, make([]int, 9)...)
	}
}

// P7.1, P7.2: of operations without responses, those that are needed are there, with their results.
func TestNeeded(t *testing.T) {
	var l []api.Event
	for who := range 7 {
		l = append(l, call(who, 0, api.KEnq, who+1))
	}
	l = append(l, whole(7, 0, api.KDeq, 0, 5)...)
	want := []api.Step{step(4, 0), step(0, 0), step(1, 0), step(2, 0), step(3, 0), step(5, 0), step(6, 0), step(7, 5)}
	wantFind(t, []int{api.TQueue}, l, want...)
	wantQuiet(t, []int{api.TQueue}, l, want...)
	set := []api.Event{call(0, 0, api.KAdd, 3), call(1, 0, api.KAdd, 3), call(2, 0, api.KRemove, 3), call(3, 0, api.KAdd, 3), end(3, 0, 1)}
	wantFind(t, []int{api.TSet}, set, step(0, 1), step(1, 0), step(2, 1), step(3, 1))
	wantQuiet(t, []int{api.TSet}, set, step(0, 1), step(1, 0), step(2, 1), step(3, 1))
	// What a process calls last can help one that called earlier.
	late := slices.Concat(whole(0, 0, api.KDeq, 0, 9), whole(1, 0, api.KDeq, 0, -1), []api.Event{call(1, 0, api.KEnq, 9)})
	wantFind(t, []int{api.TQueue}, late, step(1, -1), step(2, 0), step(0, 9))
	wantNoQuiet(t, []int{api.TQueue}, late)
}

// P7.2: a quiescent point is where some operation has been invoked and all have responses.
func TestCalm(t *testing.T) {
	types := []int{api.TReg, api.TTicket}
	read, done := func(who int) api.Event { return call(who, 0, api.KRead, 0) }, func(who int) api.Event { return end(who, 0, 0) }
	take, taken := func(who int) api.Event { return call(who, 1, api.KTake, 0) }, func(who int) api.Event { return end(who, 1, who) }
	for _, c := range []struct {
		l    []api.Event
		want []int
	}{
		{[]api.Event{read(0)}, []int{0}},
		{[]api.Event{read(0), done(0)}, []int{0}},
		{[]api.Event{read(0), done(0), read(0)}, []int{0, 1}},
		{[]api.Event{read(0), done(0), take(1)}, []int{0, 1}},
		{[]api.Event{read(0), done(0), read(0), done(0), read(0)}, []int{0, 1, 2}},
		{[]api.Event{read(0), take(1), done(0), read(0)}, []int{0, 0, 0}},
		{[]api.Event{read(0), take(1), done(0), taken(1), read(0)}, []int{0, 0, 1}},
		{[]api.Event{read(0), take(1), taken(1), done(0), take(1)}, []int{0, 0, 1}},
		{[]api.Event{read(0), take(1), taken(1), take(1), done(0), read(0)}, []int{0, 0, 0, 0}},
		{[]api.Event{read(0), take(1), done(0), read(2), taken(1), read(0), done(2), done(0), read(7)}, []int{0, 0, 0, 0, 1}},
		// After an operation that never gets a response there is no quiescent point.
		{[]api.Event{read(0), done(0), read(3), read(0), done(0), read(0), done(0), take(1), taken(1), read(0)}, []int{0, 1, 1, 1, 1, 1}},
		// Whether the history is consistent does not matter.
		{[]api.Event{read(0), end(0, 0, 1000), take(1), end(1, 1, 999), read(1)}, []int{0, 1, 2}},
	} {
		wantCalm(t, types, c.l, c.want...)
	}
}

// P7.2: no operation comes after one with a greater epoch.
func TestEpochOrder(t *testing.T) {
	types := []int{api.TReg}
	// A new epoch begins with the read or not.
	apart := slices.Concat(whole(0, 0, api.KWrite, 5, 0), whole(1, 0, api.KRead, 0, 0))
	wantNoQuiet(t, types, apart)
	apart[3].Value = 5
	wantQuiet(t, types, apart, step(0, 0), step(1, 5))
	meeting := append([]api.Event{call(2, 0, api.KRead, 0)}, slices.Concat(whole(0, 0, api.KWrite, 5, 0), whole(1, 0, api.KRead, 0, 0))...)
	wantQuiet(t, types, meeting, step(0, 0), step(2, 0), step(1, 0))
	wantQuiet(t, types, append(meeting, end(2, 0, 5)), step(2, 0), step(1, 0), step(0, 5))
	wantQuiet(t, types, append(meeting, end(2, 0, 0)), step(0, 0), step(2, 0), step(1, 0))
	// Nor does it after one with an epoch that is greater by two.
	three := slices.Concat(whole(0, 0, api.KRead, 0, 7), whole(0, 0, api.KRead, 0, 7), whole(1, 0, api.KWrite, 7, 0))
	wantNoQuiet(t, types, three)
	wantFind(t, types, three, step(2, 0), step(0, 7), step(1, 7))
	wantQuiet(t, types, append([]api.Event{call(2, 0, api.KRead, 0)}, three...), step(0, 0), step(3, 0), step(1, 7), step(2, 7))
}

// P7.2: within an epoch the operations of a process may be in any order.
func TestWithinEpoch(t *testing.T) {
	types := []int{api.TReg, api.TSet}
	own := slices.Concat(whole(0, 0, api.KWrite, 1, 0), whole(0, 0, api.KWrite, 2, 0), whole(0, 0, api.KRead, 0, 1))
	wantNoQuiet(t, types, own)
	long := slices.Concat([]api.Event{call(1, 1, api.KHas, 1)}, own, []api.Event{end(1, 1, 0)})
	wantCalm(t, types, long, 0, 0, 0, 0)
	wantQuiet(t, types, long, step(0, 0), step(1, 0), step(3, 1), step(2, 0))
	wantNoFind(t, types, long)
	wantLinear(t, types, long, false)
	// If the other operation is shorter, the read is not within its epoch.
	short := slices.Concat([]api.Event{call(1, 1, api.KHas, 1)}, own[:4], []api.Event{end(1, 1, 0)}, own[4:])
	wantCalm(t, types, short, 0, 0, 0, 1)
	wantQuiet(t, types, short, step(0, 0), step(2, 0), step(1, 0), step(3, 1))
	short[7].Value = 2
	wantQuiet(t, types, short, step(0, 0), step(1, 0), step(2, 0), step(3, 2))
	short[7].Value = 0
	wantNoQuiet(t, types, short)
}

// P7.2: epochs apply to operations without a response as well.
func TestPendingEpoch(t *testing.T) {
	types := tickets(2)
	l := append(whole(0, 0, api.KTake, 0, 1), call(1, 0, api.KTake, 0))
	wantFind(t, types, l, step(1, 0), step(0, 1))
	wantNoQuiet(t, types, l)
	// Within the same epoch it may come earlier.
	same := append([]api.Event{call(2, 1, api.KTake, 0)}, l...)
	wantQuiet(t, types, same, step(0, 0), step(2, 0), step(1, 1))
	// It comes after those with a smaller epoch even if it is not needed there.
	late := slices.Concat(whole(0, 0, api.KTake, 0, 0), []api.Event{call(1, 0, api.KTake, 0)}, whole(2, 0, api.KTake, 0, 2))
	wantQuiet(t, types, late, step(0, 0), step(1, 1), step(2, 2))
}

// P7.1, P7.2: neither condition implies the other one.
func TestApart(t *testing.T) {
	types := []int{api.TReg}
	old := slices.Concat(whole(0, 0, api.KWrite, 5, 0), whole(1, 0, api.KRead, 0, 0))
	wantFind(t, types, old, step(1, 0), step(0, 0))
	wantNoQuiet(t, types, old)
	mixed := slices.Concat([]api.Event{call(1, 0, api.KRead, 0)}, whole(0, 0, api.KRead, 0, 5), whole(0, 0, api.KWrite, 5, 0))
	wantNoFind(t, types, mixed)
	wantQuiet(t, types, mixed, step(0, 0), step(2, 0), step(1, 5))
}

// P7.1, P7.2: a history of four types, with an operation without a response that is needed.
func TestSample(t *testing.T) {
	s := sample()
	wantSample(t, s)
	for i := range s.inOrder {
		wantRight(t, s.types, s.l, false, slices.Delete(slices.Clone(s.inOrder), i, i+1)...)
	}
	// Other orders of the processes 1, 0 and 4 with respect to the others.
	wantRight(t, s.types, s.l, true, step(6, 1), step(0, 0), step(5, 0), step(1, 5), step(4, 0), step(7, 1), step(2, 1), step(3, 8))
	wantRight(t, s.types, s.l, true, step(4, 0), step(6, 1), step(7, 1), step(2, 1), step(0, 0), step(3, 8), step(5, 0), step(1, 5))
	// Operation 7 is before 4, of the same process; 3 before 2.
	wantRight(t, s.types, s.l, false, step(6, 1), step(7, 1), step(0, 0), step(4, 0), step(2, 1), step(3, 8), step(5, 0), step(1, 5))
	wantRight(t, s.types, s.l, false, step(0, 0), step(4, 0), step(3, 8), step(2, 1), step(5, 0), step(1, 5), step(6, 1), step(7, 1))
}

// P1, P7.1, P7.2: most operations overlap, most orders lead to different states, and there is no witness.
func TestHard(t *testing.T) {
	for _, c := range []struct{ typ, put, putResult, get, getArg, getResult int }{
		{api.TReg, api.KWrite, 0, api.KRead, 0, 9},
		{api.TQueue, api.KEnq, 0, api.KDeq, 0, 9},
		{api.TStack, api.KPush, 0, api.KPop, 0, 9},
		{api.TSet, api.KAdd, 1, api.KHas, 9, 1},
	} {
		var l []api.Event
		for who := range api.MaxWho {
			l = append(l, call(who, 0, c.put, 10+who))
		}
		l = append(l, end(3, 0, c.putResult))
		l = append(l, whole(3, 0, c.get, c.getArg, c.getResult)...)
		wantNoFind(t, []int{c.typ}, l)
		wantNoQuiet(t, []int{c.typ}, l)
	}
}
