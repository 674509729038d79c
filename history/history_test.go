package history

import (
	"math"
	"reflect"
	"slices"
	"testing"

	"alibi/api"
)

// extremes are values around the ends of all ranges.
var extremes = []int{
	math.MinInt, math.MinInt + 1, -1000, -2, -1, 0, 1, 2, 3, 4, 5, 6, 7, 8, 9, 10, 11, 12,
	199, 200, 201, 999, 1000, 1001, math.MaxInt - 1, math.MaxInt,
}

// call returns the event by which a process calls an operation.
func call(who, thing, kind, value int) api.Event {
	return api.Event{Who: who, Thing: thing, Kind: kind, Value: value}
}

// end returns the event by which a process gets a response.
func end(who, thing, value int) api.Event {
	return api.Event{Who: who, Thing: thing, Kind: api.KEnd, Value: value}
}

func wantCalls(t *testing.T, types []int, l []api.Event, want ...api.Call) {
	t.Helper()
	if c, at, e := Calls(types, l); !slices.Equal(c, want) || at != 0 || e != api.OK {
		t.Errorf("Calls(%v, %v) = %v, %d, %d; want %v, 0, 0", types, l, c, at, e, want)
	}
}

// wantError checks that Calls returns the index and the error, and Part the error, whatever the object is.
func wantError(t *testing.T, types []int, l []api.Event, wantAt int, want api.Errno) {
	t.Helper()
	if c, at, e := Calls(types, l); c != nil || at != wantAt || e != want {
		t.Errorf("Calls(%v, %v) = %v, %d, %d; want nil, %d, %d", types, l, c, at, e, wantAt, want)
	}
	for _, thing := range []int{-1, 0, 4} {
		wantPart(t, types, l, thing, nil, want)
	}
}

func wantPart(t *testing.T, types []int, l []api.Event, thing int, want []api.Event, wantError api.Errno) {
	t.Helper()
	if p, e := Part(types, l, thing); !slices.Equal(p, want) || e != wantError {
		t.Errorf("Part(%v, %v, %d) = %v, %d; want %v, %d", types, l, thing, p, e, want, wantError)
	}
}

func wantEvents(t *testing.T, l []api.Call, want []api.Event, wantError api.Errno) {
	t.Helper()
	if x, e := Events(l); !slices.Equal(x, want) || e != wantError {
		t.Errorf("Events(%v) = %v, %d; want %v, %d", l, x, e, want, wantError)
	}
}

func wantAhead(t *testing.T, l []api.Call, after ...uint16) {
	t.Helper()
	want := api.Rel{N: len(l)}
	copy(want.After[:], after)
	if r, e := Ahead(l); r != want || e != api.OK {
		t.Errorf("Ahead(%v) = %v, %d; want %v, 0", l, r, e, want)
	}
}

// takeTurns returns n events in which one process takes tickets from object 0.
func takeTurns(n int) []api.Event {
	l := make([]api.Event, n)
	for i := range l {
		l[i] = call(0, 0, api.KTake, 0)
		if i%2 == 1 {
			l[i] = end(0, 0, i)
		}
	}
	return l
}

// sample returns a history of all types but one, and its operations.
func sample() ([]int, []api.Event, []api.Call) {
	types := []int{api.TSet, api.TStack, api.TTicket, api.TReg}
	l := []api.Event{
		call(7, 1, api.KPop, 0),
		call(3, 0, api.KHas, 1000),
		call(0, 3, api.KWrite, 6),
		end(3, 0, 1),
		call(3, 2, api.KTake, 0),
		end(7, 1, -1),
		call(5, 0, api.KRemove, 2),
		call(7, 1, api.KPush, 9),
		end(3, 2, 1000),
		end(7, 1, 0),
		call(3, 3, api.KRead, 0),
	}
	calls := []api.Call{
		{Who: 7, Thing: 1, Kind: api.KPop, Res: -1, From: 0, To: 5},
		{Who: 3, Thing: 0, Kind: api.KHas, Arg: 1000, Res: 1, From: 1, To: 3},
		{Who: 0, Thing: 3, Kind: api.KWrite, Arg: 6, From: 2, To: -1},
		{Who: 3, Thing: 2, Kind: api.KTake, Res: 1000, From: 4, To: 8},
		{Who: 5, Thing: 0, Kind: api.KRemove, Arg: 2, From: 6, To: -1},
		{Who: 7, Thing: 1, Kind: api.KPush, Arg: 9, From: 7, To: 9},
		{Who: 3, Thing: 3, Kind: api.KRead, From: 10, To: -1},
	}
	return types, l, calls
}

// P1: no function panics or runs forever, whatever an argument is.
func TestAnyArgument(t *testing.T) {
	types, l, calls := sample()
	for _, n := range extremes {
		for _, m := range extremes {
			Fits(n, m)
			Calls([]int{n, m}, l)
			Calls(types, []api.Event{call(n, m, api.KTake, 0), end(n, m, 0)})
			Calls(types, []api.Event{call(0, 1, n, m), end(0, 1, m)})
			Calls(types, []api.Event{call(3, 2, api.KTake, 0), end(n, 2, m)})
			Part([]int{n}, takeTurns(3), m)
			for i := range calls {
				for k := range 7 {
					changed := slices.Clone(calls)
					fields := reflect.ValueOf(&changed[i]).Elem()
					fields.Field(k).SetInt(int64(n))
					fields.Field((k + 1) % 7).SetInt(int64(m))
					Events(changed)
					Ahead(changed)
				}
			}
		}
		Part(types, l, n)
	}
	Events(make([]api.Call, 100_000))
	Ahead(make([]api.Call, 100_000))
	Calls(make([]int, 100_000), make([]api.Event, 100_000))
}

// P2: the arguments, with their spare capacity, are as they were.
func TestArgumentsAreKept(t *testing.T) {
	types, l, calls := sample()
	Calls(types[:4:4], l[:10])
	Calls(types[:2], l[:2])
	Part(types[:2], l[:2], 0)
	Part(types, l[:10], 3)
	Events(calls[:1])
	Events(calls[:4])
	Ahead(calls[:4])
	wantTypes, wantEvents, wantCalls := sample()
	if !slices.Equal(types, wantTypes) || !slices.Equal(l, wantEvents) || !slices.Equal(calls, wantCalls) {
		t.Error(types, l, calls)
	}
}

// P2: overwriting one result, with its spare capacity, changes no argument and no other result.
func TestResultsAreNew(t *testing.T) {
	types, l, calls := sample()
	for range 2 {
		wantCalls(t, types, l, calls...)
		wantPart(t, types, l, 0, []api.Event{l[1], l[3], l[6]}, api.OK)
		wantEvents(t, calls, l, api.OK)
		c, _, _ := Calls(types, l)
		for i := range c[:cap(c)] {
			c[:cap(c)][i] = api.Call{Who: -99}
		}
		p, _ := Part(types, l, 0)
		x, _ := Events(calls)
		for _, events := range [][]api.Event{p[:cap(p)], x[:cap(x)]} {
			for i := range events {
				events[i] = api.Event{Who: -99}
			}
		}
	}
	wantTypes, wantEvents, wantCalls := sample()
	if !slices.Equal(types, wantTypes) || !slices.Equal(l, wantEvents) || !slices.Equal(calls, wantCalls) {
		t.Error(types, l, calls)
	}
}

// P2: the results of a call do not depend on the calls before it.
func TestNoStateIsKept(t *testing.T) {
	types, l, calls := sample()
	for range 2 {
		wantCalls(t, types, l, calls...)
		wantCalls(t, []int{api.TReg}, nil)
		wantError(t, types, l[3:], 0, api.ErrNone)
		wantEvents(t, calls, l, api.OK)
		wantEvents(t, calls[1:], nil, api.ErrForm)
		wantPart(t, types, l, 2, []api.Event{l[4], l[8]}, api.OK)
		wantPart(t, types, l, 4, nil, api.ErrNone)
	}
}

// P3.1: every operation belongs to one type, and no other number to any.
func TestFits(t *testing.T) {
	types := map[int]int{
		api.KWrite: api.TReg, api.KRead: api.TReg,
		api.KEnq: api.TQueue, api.KDeq: api.TQueue,
		api.KPush: api.TStack, api.KPop: api.TStack,
		api.KAdd: api.TSet, api.KRemove: api.TSet, api.KHas: api.TSet,
		api.KTake: api.TTicket,
	}
	for _, typ := range extremes {
		for _, kind := range extremes {
			owner, known := types[kind]
			if want := known && owner == typ; Fits(typ, kind) != want {
				t.Errorf("Fits(%d, %d) = %t; want %t", typ, kind, !want, want)
			}
		}
	}
}

// P3.1: operations are in the order of their invocations, with their responses or without.
func TestCalls(t *testing.T) {
	types, l, calls := sample()
	wantCalls(t, types, l, calls...)
	wantCalls(t, []int{api.TReg}, nil)
	wantCalls(t, []int{5, 4, 3, 2}, []api.Event{})
	wantCalls(t, []int{api.TQueue}, []api.Event{call(7, 0, api.KEnq, 1), end(7, 0, 0)},
		api.Call{Who: 7, Kind: api.KEnq, Arg: 1, From: 0, To: 1})
	// Objects of one type are different ones.
	wantCalls(t, []int{1, 1, 1, 1}, []api.Event{call(0, 3, api.KRead, 0), call(1, 0, api.KRead, 0), end(0, 3, 8)},
		api.Call{Thing: 3, Kind: api.KRead, Res: 8, From: 0, To: 2},
		api.Call{Who: 1, Kind: api.KRead, From: 1, To: -1})
}

// P3.1: all processes can have a pending operation at the same time.
func TestCallsOfAll(t *testing.T) {
	var l []api.Event
	var want []api.Call
	for who := range api.MaxWho {
		l = append(l, call(who, 0, api.KDeq, 0))
		want = append(want, api.Call{Who: who, Kind: api.KDeq, Res: who + 1, From: who, To: 15 - who})
	}
	for who := api.MaxWho - 1; who >= 0; who-- {
		l = append(l, end(who, 0, who+1))
	}
	wantCalls(t, []int{api.TQueue}, l, want...)
	wantEvents(t, want, l, api.OK)
}

// P3.1: there are 1 to 4 objects of types 1 to 5, and this is checked first.
func TestTypes(t *testing.T) {
	for _, types := range [][]int{{1}, {5}, {1, 2, 3, 4}, {5, 5, 5, 5}} {
		wantCalls(t, types, nil)
	}
	for _, types := range [][]int{
		nil, {}, {0}, {6}, {-1}, {math.MinInt}, {math.MaxInt}, {1, 2, 3, 0}, {1, 6, 3, 4}, {1, 1, 1, 1, 1}, make([]int, 1000),
	} {
		wantError(t, types, nil, 0, api.ErrArg)
		wantError(t, types, make([]api.Event, 201), 0, api.ErrArg)
		wantError(t, types, []api.Event{call(0, 0, api.KTake, 0), end(9, 9, 9)}, 0, api.ErrArg)
	}
}

// P3.1: there are at most 200 events, and this is checked before the events are.
func TestManyEvents(t *testing.T) {
	types := []int{api.TTicket}
	l := takeTurns(201)
	if c, at, e := Calls(types, l[:200]); len(c) != 100 || c[99].To != 199 || at != 0 || e != api.OK {
		t.Error(c, at, e)
	}
	wantError(t, types, l, 0, api.ErrLarge)
	wantError(t, types, slices.Concat(l[1:], l), 0, api.ErrLarge)
	wantError(t, types, l[1:], 0, api.ErrNone)
	l[199] = end(0, 0, 1001)
	wantError(t, types, l[:200], 199, api.ErrForm)
}

// P3.1: processes and objects that do not exist are an error, which comes before all others of the event.
func TestWhoAndThing(t *testing.T) {
	types := []int{api.TTicket, api.TTicket}
	for _, bad := range [][2]int{
		{-1, 0}, {8, 0}, {math.MinInt, 1}, {math.MaxInt, 1}, {0, -1}, {0, 2}, {7, math.MinInt}, {7, math.MaxInt}, {8, 2},
	} {
		who, thing := bad[0], bad[1]
		for _, event := range []api.Event{
			call(who, thing, api.KTake, 0),
			call(who, thing, api.KWrite, 0),
			call(who, thing, 99, -99),
			end(who, thing, 0),
			end(who, thing, -99),
		} {
			wantError(t, types, []api.Event{event}, 0, api.ErrForm)
			wantError(t, types, []api.Event{call(3, 1, api.KTake, 0), event}, 1, api.ErrForm)
			wantError(t, types, []api.Event{call(0, 0, api.KTake, 0), call(7, 0, api.KTake, 0), event}, 2, api.ErrForm)
		}
	}
}

// P3.1: a response needs a pending operation of the process; that it has none comes before other errors.
func TestNoPending(t *testing.T) {
	types := []int{api.TTicket, api.TReg}
	pending := []api.Event{call(1, 0, api.KTake, 0)}
	done := []api.Event{call(0, 0, api.KTake, 0), end(0, 0, 5)}
	for _, event := range []api.Event{end(0, 0, 0), end(0, 1, 0), end(0, 0, -99)} {
		wantError(t, types, []api.Event{event}, 0, api.ErrNone)
		wantError(t, types, append(pending[:1:1], event), 1, api.ErrNone)
		wantError(t, types, append(done[:2:2], event), 2, api.ErrNone)
	}
}

// P3.1: a response of another object is an error, even if that object is of the same type or has an operation that waits.
func TestOtherThing(t *testing.T) {
	types := []int{api.TReg, api.TReg, api.TSet}
	wantError(t, types, []api.Event{call(0, 0, api.KRead, 0), end(0, 1, 0)}, 1, api.ErrForm)
	wantError(t, types, []api.Event{call(0, 1, api.KRead, 0), end(0, 0, 0)}, 1, api.ErrForm)
	wantError(t, types, []api.Event{call(0, 2, api.KHas, 1), call(1, 1, api.KRead, 0), end(0, 1, 0)}, 2, api.ErrForm)
}

// ranges contains, for each operation, the least and the greatest argument and result.
var ranges = []struct{ typ, kind, leastArg, mostArg, leastRes, mostRes int }{
	{api.TReg, api.KWrite, 1, 1000, 0, 0},
	{api.TReg, api.KRead, 0, 0, 0, 1000},
	{api.TQueue, api.KEnq, 1, 1000, 0, 0},
	{api.TQueue, api.KDeq, 0, 0, -1, 1000},
	{api.TStack, api.KPush, 1, 1000, 0, 0},
	{api.TStack, api.KPop, 0, 0, -1, 1000},
	{api.TSet, api.KAdd, 1, 1000, 0, 1},
	{api.TSet, api.KRemove, 1, 1000, 0, 1},
	{api.TSet, api.KHas, 1, 1000, 0, 1},
	{api.TTicket, api.KTake, 0, 0, 0, 1000},
}

// P3.1: arguments and results are in the ranges of the operation.
func TestRanges(t *testing.T) {
	for _, r := range ranges {
		types := []int{r.typ}
		for _, value := range extremes {
			l := []api.Event{call(2, 0, r.kind, value)}
			if r.leastArg <= value && value <= r.mostArg {
				wantCalls(t, types, l, api.Call{Who: 2, Kind: r.kind, Arg: value, To: -1})
			} else {
				wantError(t, types, l, 0, api.ErrForm)
			}
			l = []api.Event{call(2, 0, r.kind, r.mostArg), end(2, 0, value)}
			// The results of KDeq and KPop have a gap at 0.
			if r.leastRes <= value && value <= r.mostRes && (r.leastRes == 0 || value != 0) {
				wantCalls(t, types, l, api.Call{Who: 2, Kind: r.kind, Arg: r.mostArg, Res: value, To: 1})
			} else {
				wantError(t, types, l, 1, api.ErrForm)
			}
		}
	}
}

// P3.1: an operation of another type is an error, and so is a number without an operation.
func TestOtherKinds(t *testing.T) {
	for typ := api.TReg; typ <= api.TTicket; typ++ {
		for _, r := range ranges {
			if r.typ != typ {
				l := []api.Event{call(0, 0, r.kind, r.mostArg)}
				wantError(t, []int{typ}, l, 0, api.ErrForm)
				// The type of another object does not help.
				wantError(t, []int{typ, r.typ}, l, 0, api.ErrForm)
			}
		}
		for _, kind := range []int{math.MinInt, -1, 11, math.MaxInt} {
			wantError(t, []int{typ}, []api.Event{call(0, 0, kind, 0)}, 0, api.ErrForm)
			wantError(t, []int{typ}, []api.Event{call(0, 0, kind, 1)}, 0, api.ErrForm)
		}
	}
}

// P3.1: a process with a pending operation cannot call, at any object; other errors of the event come before this one.
func TestTwice(t *testing.T) {
	types := []int{api.TQueue, api.TQueue}
	first := call(4, 0, api.KDeq, 0)
	for _, second := range []api.Event{first, call(4, 1, api.KDeq, 0), call(4, 0, api.KEnq, 5)} {
		wantError(t, types, []api.Event{first, second}, 1, api.ErrTwice)
		wantError(t, types, []api.Event{call(1, 0, api.KDeq, 0), first, end(1, 0, -1), second}, 3, api.ErrTwice)
		wantCalls(t, types, []api.Event{first, end(4, 0, -1), second},
			api.Call{Who: 4, Kind: api.KDeq, Res: -1, To: 1},
			api.Call{Who: 4, Thing: second.Thing, Kind: second.Kind, Arg: second.Value, From: 2, To: -1})
	}
	for _, second := range []api.Event{call(4, 0, api.KEnq, 0), call(4, 0, api.KPush, 5), call(4, 2, api.KDeq, 0)} {
		wantError(t, types, []api.Event{first, second}, 1, api.ErrForm)
	}
}

// P3.1: the first of several invalid events counts.
func TestFirstInvalid(t *testing.T) {
	types := []int{api.TSet}
	good := call(0, 0, api.KAdd, 1)
	none, form, twice := end(1, 0, 0), end(0, 0, 2), call(0, 0, api.KHas, 1)
	wantError(t, types, []api.Event{good, none, form, twice}, 1, api.ErrNone)
	wantError(t, types, []api.Event{good, form, twice, none}, 1, api.ErrForm)
	wantError(t, types, []api.Event{good, twice, none, form}, 1, api.ErrTwice)
}

// P3.2: Events is the inverse of Calls.
func TestEvents(t *testing.T) {
	_, l, calls := sample()
	wantEvents(t, calls, l, api.OK)
	wantEvents(t, nil, nil, api.OK)
	wantEvents(t, []api.Call{}, nil, api.OK)
	// Only the last object has operations.
	wantEvents(t, []api.Call{{Who: 1, Thing: 3, Kind: api.KPop, To: -1}}, []api.Event{call(1, 3, api.KPop, 0)}, api.OK)
	for _, r := range ranges {
		wantEvents(t, []api.Call{{Kind: r.kind, Arg: r.mostArg, Res: r.mostRes, To: 1}},
			[]api.Event{call(0, 0, r.kind, r.mostArg), end(0, 0, r.mostRes)}, api.OK)
	}
}

// P3.2: operations that are no result of Calls are an error.
func TestEventsForm(t *testing.T) {
	for _, change := range []func(l []api.Call){
		func(l []api.Call) { l[0], l[1] = l[1], l[0] },      // not in the order of the invocations
		func(l []api.Call) { l[0].From = 1 },                // two events with one index
		func(l []api.Call) { l[2].To = 4 },                  // the response of the first operation as well
		func(l []api.Call) { l[1].To = 1 },                  // an invocation as well
		func(l []api.Call) { l[0].From, l[0].To = 4, 0 },    // the response comes first
		func(l []api.Call) { l[0].From = -1 },               // no index
		func(l []api.Call) { l[0].From = math.MinInt },      // no index
		func(l []api.Call) { l[2].From = 6 },                // beyond the events
		func(l []api.Call) { l[2].From = math.MaxInt },      // beyond the events
		func(l []api.Call) { l[0].To = 6 },                  // beyond the events
		func(l []api.Call) { l[0].To = math.MaxInt },        // beyond the events
		func(l []api.Call) { l[0].To = -2 },                 // neither an index nor -1
		func(l []api.Call) { l[0].To = math.MinInt },        // neither an index nor -1
		func(l []api.Call) { l[0].To = -1 },                 // a response is missing, and a gap is left
		func(l []api.Call) { l[1].Res = 0; l[1].To = -1 },   // the same
		func(l []api.Call) { l[0].Res, l[0].To = 1, -1 },    // a result without a response
		func(l []api.Call) { l[2].Who = 8 },                 // no process
		func(l []api.Call) { l[2].Who = -1 },                // no process
		func(l []api.Call) { l[1].Who = 0 },                 // a process calls while its operation is pending
		func(l []api.Call) { l[2].Thing = 4 },               // no object
		func(l []api.Call) { l[2].Thing = -1 },              // no object
		func(l []api.Call) { l[2].Thing = math.MaxInt },     // no object
		func(l []api.Call) { l[2].Thing = 0 },               // an object of two types
		func(l []api.Call) { l[0].Kind = api.KEnd },         // no operation
		func(l []api.Call) { l[2].Kind = 11 },               // no operation
		func(l []api.Call) { l[2].Kind = -1 },               // no operation
		func(l []api.Call) { l[1].Kind = api.KWrite },       // an object of two types
		func(l []api.Call) { l[0].Arg = 0 },                 // not in the range of the arguments
		func(l []api.Call) { l[0].Arg = 1001 },              // not in the range of the arguments
		func(l []api.Call) { l[2].Arg = 1 },                 // not in the range of the arguments
		func(l []api.Call) { l[1].Res = -2 },                // not in the range of the results
		func(l []api.Call) { l[1].Res = 0 },                 // not in the range of the results
		func(l []api.Call) { l[1].Res = 1001 },              // not in the range of the results
		func(l []api.Call) { l[0].Res = 1 },                 // not in the range of the results
		func(l []api.Call) { l[2].Res = 1001 },              // not in the range of the results
		func(l []api.Call) { l[2] = api.Call{} },            // nothing
		func(l []api.Call) { l[0] = l[1] },                  // an operation twice
		func(l []api.Call) { l[0].To, l[1].To = 0, 0 },      // two responses with one index
		func(l []api.Call) { l[0].To, l[1].From = 1, 4 },    // not in the order of the invocations
		func(l []api.Call) { l[1].Who = 2 },                 // a process calls while its operation is pending
		func(l []api.Call) { l[2].From, l[2].To = 5, 2 },    // the response comes first
		func(l []api.Call) { l[2].To = l[2].From },          // one index for both
		func(l []api.Call) { l[0].From, l[1].From = 1, 0 },  // not in the order of the invocations
		func(l []api.Call) { l[0].Kind, l[1].Kind = 4, 3 },  // with arguments and results of the other ones
		func(l []api.Call) { l[2].Kind, l[2].Res = 10, -1 }, // not in the range of the results
	} {
		l := []api.Call{
			{Who: 0, Thing: 0, Kind: api.KEnq, Arg: 6, From: 0, To: 4},
			{Who: 1, Thing: 0, Kind: api.KDeq, Res: 6, From: 1, To: 3},
			{Who: 2, Thing: 2, Kind: api.KRead, Res: 6, From: 2, To: 5},
		}
		wantEvents(t, l, []api.Event{
			call(0, 0, api.KEnq, 6), call(1, 0, api.KDeq, 0), call(2, 2, api.KRead, 0), end(1, 0, 6), end(0, 0, 0), end(2, 2, 6),
		}, api.OK)
		change(l)
		wantEvents(t, l, nil, api.ErrForm)
	}
}

// P3.2: more than 200 operations are ErrLarge, and fewer with more than 200 events ErrForm.
func TestEventsLarge(t *testing.T) {
	calls := make([]api.Call, 201)
	for i := range calls {
		calls[i] = api.Call{Kind: api.KTake, Res: 2*i + 1, From: 2 * i, To: 2*i + 1}
	}
	wantEvents(t, calls[:100], takeTurns(200), api.OK)
	wantEvents(t, calls[:101], nil, api.ErrForm)
	wantEvents(t, calls[:200], nil, api.ErrForm)
	wantEvents(t, calls, nil, api.ErrLarge)
	wantEvents(t, make([]api.Call, 200), nil, api.ErrForm)
	wantEvents(t, make([]api.Call, 201), nil, api.ErrLarge)
}

// P3.2: Part keeps the events of one object as they are, and their order.
func TestPart(t *testing.T) {
	types, l, _ := sample()
	wantPart(t, types, l, 0, []api.Event{l[1], l[3], l[6]}, api.OK)
	wantPart(t, types, l, 1, []api.Event{l[0], l[5], l[7], l[9]}, api.OK)
	wantPart(t, types, l, 2, []api.Event{l[4], l[8]}, api.OK)
	wantPart(t, types, l, 3, []api.Event{l[2], l[10]}, api.OK)
	wantPart(t, []int{api.TReg, api.TSet}, nil, 1, nil, api.OK)
	wantPart(t, []int{api.TTicket, api.TSet}, takeTurns(200), 0, takeTurns(200), api.OK)
	wantPart(t, []int{api.TTicket, api.TSet}, takeTurns(200), 1, nil, api.OK)
}

// P3.2: an object that does not exist is an error after those of Calls.
func TestPartNone(t *testing.T) {
	types, l, _ := sample()
	for _, thing := range []int{math.MinInt, -1, 4, 5, math.MaxInt} {
		wantPart(t, types, l, thing, nil, api.ErrNone)
		wantPart(t, types, l[3:], thing, nil, api.ErrNone)
		wantPart(t, types, slices.Concat(l, l[10:]), thing, nil, api.ErrTwice)
		wantPart(t, types, make([]api.Event, 201), thing, nil, api.ErrLarge)
		wantPart(t, nil, l, thing, nil, api.ErrArg)
	}
	wantPart(t, []int{api.TTicket}, takeTurns(2), 1, nil, api.ErrNone)
}

// during returns operations with the given times.
func during(times ...int) []api.Call {
	l := make([]api.Call, len(times)/2)
	for i := range l {
		l[i] = api.Call{From: times[2*i], To: times[2*i+1]}
	}
	return l
}

// P3.3: a read within a write is not ordered with respect to it.
func TestAheadExample(t *testing.T) {
	l, _, e := Calls([]int{api.TReg}, []api.Event{call(0, 0, api.KWrite, 1), call(1, 0, api.KRead, 0), end(1, 0, 0), end(0, 0, 0)})
	if e != api.OK {
		t.Fatal(e)
	}
	wantAhead(t, l)
}

// P3.3: an operation precedes those that are invoked after its response.
func TestAhead(t *testing.T) {
	_, _, calls := sample()
	wantAhead(t, nil)
	wantAhead(t, []api.Call{})
	wantAhead(t, calls, 1<<4|1<<5|1<<6, 1<<3|1<<4|1<<5|1<<6, 0, 1<<6, 0, 1<<6)
	wantAhead(t, during(0, 1, 2, 3), 1<<1)
	wantAhead(t, during(2, 3, 0, 1), 0, 1<<0)
	wantAhead(t, during(0, 2, 1, 3))
	wantAhead(t, during(0, -1, 1, 2, 3, -1), 0, 1<<2)
}

// P3.3: the operations are any ones: From and To need not be those of a history.
func TestAheadOfAny(t *testing.T) {
	wantAhead(t, during(0, 5, 5, 9, 6, 7), 1<<2)
	wantAhead(t, during(math.MinInt, math.MaxInt, math.MaxInt, math.MinInt), 0, 1<<1)
	// Only -1 stands for no response.
	wantAhead(t, during(0, -2, -1, 0), 1<<0|1<<1)
	// An operation that is invoked after its own response precedes itself.
	wantAhead(t, during(5, 3, 4, 4), 1<<0|1<<1, 1<<0)
	odd := api.Call{Who: -1, Thing: 77, Kind: 99, Arg: -5, Res: 5000, From: 1, To: 2}
	wantAhead(t, []api.Call{odd, {From: 3, To: 3}}, 1<<1)
}

// P3.3: there are at most 12 operations.
func TestAheadLarge(t *testing.T) {
	l := make([]api.Call, 13)
	var after []uint16
	for i := range l {
		l[i] = api.Call{From: 2 * i, To: 2*i + 1}
		after = append(after, uint16(0x0FFF&^(1<<(i+1)-1)))
	}
	wantAhead(t, l[:12], after[:12]...)
	if r, e := Ahead(l); !reflect.ValueOf(r).IsZero() || e != api.ErrLarge {
		t.Error(r, e)
	}
	if r, e := Ahead(make([]api.Call, 1000)); !reflect.ValueOf(r).IsZero() || e != api.ErrLarge {
		t.Error(r, e)
	}
}
