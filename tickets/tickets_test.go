package tickets

import (
	"math"
	"slices"
	"testing"

	"alibi/api"
)

// extremes are values around the ends of all ranges.
var extremes = []int{
	math.MinInt, math.MinInt + 1, -65536, -64, -16, -2, -1, 0, 1, 2, 3, 4, 5, 6, 7, 8, 9, 10, 11,
	15, 16, 17, 31, 63, 64, 65, 199, 200, 201, 255, 256, 999, 1000, 1001, 65536, 1 << 32, math.MaxInt - 1, math.MaxInt,
}

// take returns the event by which a process calls an operation.
func take(who int) api.Event {
	return api.Event{Who: who, Kind: api.KTake}
}

// end returns the event by which a process gets a response.
func end(who, number int) api.Event {
	return api.Event{Who: who, Kind: api.KEnd, Value: number}
}

// got returns the two events of an operation that overlaps with no other one.
func got(who, number int) []api.Event {
	return list(take(who), end(who, number))
}

// list returns the events in a list.
func list(l ...api.Event) []api.Event { return l }

// steps returns the steps of operations that have the numbers from 0.
func steps(calls ...int) []api.Step {
	var w []api.Step
	for number, call := range calls {
		w = append(w, api.Step{Call: call, Res: number})
	}
	return w
}

// wantOrder checks that the history is linearizable, by the operations in this order.
func wantOrder(t *testing.T, l []api.Event, calls ...int) {
	t.Helper()
	if is, bad, e := Check(l); !is || bad != (api.Bad{}) || e != api.OK {
		t.Errorf("Check(%v) = %v, %v, %d; want true, {0 0 0}, 0", l, is, bad, e)
	}
	if w, e := Order(l); !slices.Equal(w, steps(calls...)) || e != api.OK {
		t.Errorf("Order(%v) = %v, %d; want %v, 0", l, w, e, steps(calls...))
	}
}

// wantBad checks that the history is not linearizable, by this violation.
func wantBad(t *testing.T, l []api.Event, kind, a, b int) {
	t.Helper()
	want := api.Bad{Kind: kind, A: a, B: b}
	if is, bad, e := Check(l); is || bad != want || e != api.OK {
		t.Errorf("Check(%v) = %v, %v, %d; want false, %v, 0", l, is, bad, e, want)
	}
	if w, e := Order(l); len(w) != 0 || e != api.ErrNone {
		t.Errorf("Order(%v) = %v, %d; want none, %d", l, w, e, api.ErrNone)
	}
}

// wantError checks that both functions return the error and no more.
func wantError(t *testing.T, l []api.Event, want api.Errno) {
	t.Helper()
	if is, bad, e := Check(l); is || bad != (api.Bad{}) || e != want {
		t.Errorf("Check(%v) = %v, %v, %d; want false, {0 0 0}, %d", l, is, bad, e, want)
	}
	if w, e := Order(l); len(w) != 0 || e != want {
		t.Errorf("Order(%v) = %v, %d; want none, %d", l, w, e, want)
	}
}

// sample returns a history of which the operations can have the order of sampleOrder.
func sample() []api.Event {
	return list(
		take(3), take(0), take(5), end(0, 0), take(0), take(1), end(1, 4), end(0, 1),
		take(7), take(2), take(0), end(0, 6), take(6), end(2, 5),
	)
}

// sampleOrder are the operations of a sample that have numbers: those of the
// processes 3, 5 and 7 have no response, and get 2, 3 and 7 only if there is a need.
var sampleOrder = []int{1, 3, 0, 2, 4, 6, 7}

// P1: no function panics or runs forever, whatever an argument is.
func TestAnyArgument(t *testing.T) {
	for _, n := range extremes {
		for _, m := range extremes {
			for at := range sample() {
				for _, change := range []func(*api.Event){
					func(event *api.Event) { event.Kind, event.Value = n, m },
					func(event *api.Event) { event.Who, event.Thing = n, m },
					func(event *api.Event) { event.Who, event.Value = n, m },
				} {
					l := sample()
					change(&l[at])
					Check(l)
					Order(l)
				}
			}
		}
	}
	Check(make([]api.Event, 100_000))
	Order(make([]api.Event, 100_000))
}

// P2: the argument, with its spare capacity, is as it was.
func TestArgumentsAreKept(t *testing.T) {
	for n := range len(sample()) + 1 {
		many := append(sample(), end(-11, -12), end(-13, -14))
		Check(many[:n])
		Order(many[:n])
		if !slices.Equal(many, append(sample(), end(-11, -12), end(-13, -14))) {
			t.Error(many)
		}
	}
}

// P2: overwriting one result, with its spare capacity, changes neither the argument nor any other result.
func TestResultsAreNew(t *testing.T) {
	l := sample()
	first, _ := Order(l)
	second, _ := Order(l)
	first = first[:cap(first)]
	for i := range first {
		first[i] = api.Step{Call: -99, Res: -99}
	}
	if !slices.Equal(second, steps(sampleOrder...)) || !slices.Equal(l, sample()) {
		t.Error(second, l)
	}
	wantOrder(t, l, sampleOrder...)
}

// P2: the results of a call do not depend on the calls before it.
func TestNoStateIsKept(t *testing.T) {
	for range 3 {
		wantOrder(t, sample(), sampleOrder...)
		wantOrder(t, nil)
		wantBad(t, got(0, 1), api.BadGap, 0, 0)
		wantOrder(t, got(0, 0), 0)
		wantBad(t, append(sample(), end(3, 0)), api.BadTwice, 1, 0)
		wantError(t, append(sample(), take(3)), api.ErrTwice)
		wantBad(t, slices.Concat(got(0, 1), got(1, 0)), api.BadOrder, 0, 1)
		wantError(t, list(end(0, 0)), api.ErrNone)
	}
}

// P11.1, P11.2: the error of history.Calls comes first; the only object is a ticket counter.
func TestErrorsOfCalls(t *testing.T) {
	bad := slices.Concat(got(4, 1), got(4, 1), got(4, 0), got(4, 9))
	for _, c := range []struct {
		event api.Event
		want  api.Errno
	}{
		{take(8), api.ErrForm},
		{take(-1), api.ErrForm},
		{api.Event{Who: 4, Kind: api.KTake, Value: 1}, api.ErrForm},
		{api.Event{Who: 4, Kind: api.KTake, Value: -1}, api.ErrForm},
		{api.Event{Who: 4, Kind: api.KTake, Thing: 1}, api.ErrForm},
		{api.Event{Who: 4, Kind: api.KTake, Thing: -1}, api.ErrForm},
		{api.Event{Who: 4, Kind: api.KWrite, Value: 1}, api.ErrForm},
		{api.Event{Who: 4, Kind: api.KRead}, api.ErrForm},
		{api.Event{Who: 4, Kind: api.KEnq, Value: 1}, api.ErrForm},
		{api.Event{Who: 4, Kind: api.KDeq}, api.ErrForm},
		{api.Event{Who: 4, Kind: api.KPush, Value: 1}, api.ErrForm},
		{api.Event{Who: 4, Kind: api.KPop}, api.ErrForm},
		{api.Event{Who: 4, Kind: api.KAdd, Value: 1}, api.ErrForm},
		{api.Event{Who: 4, Kind: api.KRemove, Value: 1}, api.ErrForm},
		{api.Event{Who: 4, Kind: api.KHas, Value: 1}, api.ErrForm},
		{api.Event{Who: 4, Kind: 11}, api.ErrForm},
		{api.Event{Who: 4, Kind: -1}, api.ErrForm},
		{api.Event{Who: 7, Kind: api.KEnd, Thing: 1}, api.ErrForm},
		{end(8, 0), api.ErrForm},
		{end(7, -1), api.ErrForm},
		{end(7, 1001), api.ErrForm},
		{end(0, 7), api.ErrNone},
		{end(4, 0), api.ErrNone},
		{take(3), api.ErrTwice},
		{take(6), api.ErrTwice},
	} {
		wantError(t, append(sample(), c.event), c.want)
		wantError(t, slices.Concat(sample(), list(c.event), bad), c.want)
		wantError(t, slices.Concat(bad, sample(), list(c.event)), c.want)
		wantError(t, slices.Concat(sample(), list(c.event, end(-5, -5))), c.want)
	}
	wantError(t, slices.Repeat(got(0, 0), 101), api.ErrLarge)
	wantError(t, append(slices.Repeat(got(0, 0), 100), take(0)), api.ErrLarge)
	wantError(t, slices.Repeat(list(end(9, 9)), 201), api.ErrLarge)
}

// P11.1, P11.2: a history with no results is linearizable, by no steps.
func TestNoNumbers(t *testing.T) {
	wantOrder(t, nil)
	wantOrder(t, list())
	wantOrder(t, list(take(0)))
	wantOrder(t, list(take(5), take(0), take(7)))
}

// P11.1, P11.2: one operation after the other.
func TestOneAfterTheOther(t *testing.T) {
	wantOrder(t, got(0, 0), 0)
	wantBad(t, got(0, 1), api.BadGap, 0, 0)
	wantBad(t, got(0, 2), api.BadGap, 0, 0)
	wantBad(t, got(0, 1000), api.BadGap, 0, 0)
	wantOrder(t, slices.Concat(got(0, 0), got(1, 1)), 0, 1)
	wantOrder(t, slices.Concat(got(5, 0), got(5, 1), got(2, 2), got(5, 3)), 0, 1, 2, 3)
	wantBad(t, slices.Concat(got(0, 0), got(1, 2)), api.BadGap, 1, 0)
	wantBad(t, slices.Concat(got(0, 0), got(1, 1000)), api.BadGap, 1, 0)
	wantBad(t, slices.Concat(got(0, 0), got(1, 0)), api.BadTwice, 1, 0)
	wantBad(t, slices.Concat(got(0, 1), got(1, 0)), api.BadOrder, 0, 1)
}

// P11.1: the first operation that has the result of an earlier one.
func TestTwice(t *testing.T) {
	for _, n := range []int{0, 1, 2, 63, 64, 255, 256, 999, 1000} {
		wantBad(t, slices.Concat(got(0, n), got(0, n)), api.BadTwice, 1, 0)
		wantBad(t, list(take(0), take(1), end(1, n), end(0, n)), api.BadTwice, 1, 0)
		wantBad(t, list(take(0), take(1), end(0, n), end(1, n)), api.BadTwice, 1, 0)
		wantBad(t, slices.Concat(got(0, n), got(1, n), got(2, n)), api.BadTwice, 1, 0)
	}
	wantBad(t, slices.Concat(got(0, 0), got(1, 1), got(2, 2), got(3, 1), got(4, 0)), api.BadTwice, 3, 1)
	wantBad(t, slices.Concat(got(0, 0), got(1, 1), got(2, 2), got(3, 2), got(4, 1)), api.BadTwice, 3, 2)
	// Operations are compared by their invocations, and not by their responses.
	l := list(take(0), take(1), take(2), take(3), end(3, 0), end(0, 0), end(2, 1), end(1, 1))
	wantBad(t, l, api.BadTwice, 2, 1)
	l[4], l[5] = end(3, 1), end(0, 1)
	l[6], l[7] = end(2, 0), end(1, 0)
	wantBad(t, l, api.BadTwice, 2, 1)
	l[4], l[5], l[6], l[7] = end(3, 0), end(2, 1), end(1, 0), end(0, 1)
	wantBad(t, l, api.BadTwice, 2, 0)
}

// P11.1: an operation without a response has no result: it is not 0.
func TestNoResponse(t *testing.T) {
	wantOrder(t, append(got(0, 0), take(0)), 0)
	wantOrder(t, list(take(0), take(1), end(1, 0)), 1)
	wantOrder(t, list(take(0), take(1), take(2), end(1, 0)), 1)
	wantOrder(t, slices.Concat(list(take(0)), got(1, 0), got(1, 1), list(take(2), take(3))), 1, 2)
	// Also where it is preceded by greater results.
	wantOrder(t, slices.Concat(got(1, 0), got(1, 1), list(take(2)), got(3, 2), list(take(3))), 0, 1, 3)
	// It is what 0 can be the number of.
	wantOrder(t, slices.Concat(list(take(7)), got(1, 1), got(1, 2)), 0, 1, 2)
}

// P11.1: the first operation that precedes one with a smaller result, and the first such one.
func TestOrder(t *testing.T) {
	wantBad(t, slices.Concat(got(0, 0), got(1, 2), got(2, 1)), api.BadOrder, 1, 2)
	wantBad(t, slices.Concat(got(0, 2), got(1, 1), got(2, 0)), api.BadOrder, 0, 1)
	wantBad(t, slices.Concat(got(0, 1), got(1, 2), got(2, 0)), api.BadOrder, 0, 2)
	wantBad(t, slices.Concat(got(0, 1), got(1, 3), got(2, 2), got(3, 0)), api.BadOrder, 0, 3)
	wantBad(t, slices.Concat(got(0, 0), got(1, 3), got(2, 1), got(3, 2)), api.BadOrder, 1, 2)
	// Only where they do not overlap.
	wantOrder(t, list(take(0), take(1), end(0, 1), end(1, 0)), 1, 0)
	wantOrder(t, list(take(0), take(1), end(1, 1), end(0, 0)), 0, 1)
	wantOrder(t, list(take(0), take(1), end(1, 0), end(0, 1)), 1, 0)
	wantBad(t, list(take(0), end(0, 1), take(1), end(1, 0)), api.BadOrder, 0, 1)
	wantOrder(t, list(take(0), take(1), end(1, 1), take(1), end(1, 2), end(0, 0)), 0, 1, 2)
	wantBad(t, list(take(0), take(1), end(1, 2), take(1), end(1, 1), end(0, 0)), api.BadOrder, 1, 2)
	// A is the first one that is called, though another one ends earlier.
	wantBad(t, list(take(0), take(1), end(1, 2), end(0, 3), take(2), take(3), end(3, 0), end(2, 1)), api.BadOrder, 0, 2)
	wantBad(t, list(take(0), take(1), end(1, 3), end(0, 0), take(2), take(3), end(3, 1), end(2, 2)), api.BadOrder, 1, 2)
	wantBad(t, list(take(0), take(1), end(1, 2), take(3), end(0, 3), take(2), end(2, 1), end(3, 0)), api.BadOrder, 0, 3)
}

// P11.1: the smallest number that nobody can have.
func TestGap(t *testing.T) {
	wantBad(t, slices.Concat(got(0, 0), got(1, 1), got(2, 3)), api.BadGap, 2, 0)
	wantBad(t, slices.Concat(got(0, 1), got(1, 3), got(2, 5)), api.BadGap, 0, 0)
	wantBad(t, slices.Concat(list(take(7)), got(0, 1), got(1, 3), got(2, 5)), api.BadGap, 2, 0)
	wantBad(t, slices.Concat(list(take(7), take(6)), got(0, 1), got(1, 3), got(2, 5)), api.BadGap, 4, 0)
	wantOrder(t, slices.Concat(list(take(7), take(6), take(5)), got(0, 1), got(1, 3), got(2, 5)), 0, 3, 1, 4, 2, 5)
	// More operations than numbers.
	wantOrder(t, slices.Concat(list(take(7), take(6), take(5), take(4)), got(0, 1), got(1, 3), got(2, 5)), 0, 4, 1, 5, 2, 6)
	wantBad(t, slices.Concat(list(take(7)), got(0, 2)), api.BadGap, 1, 0)
	wantBad(t, slices.Concat(list(take(7)), got(0, 1000)), api.BadGap, 1, 0)
	wantBad(t, slices.Concat(list(take(1), take(2), take(3), take(4), take(5), take(6), take(7)), got(0, 1000)), api.BadGap, 7, 0)
	wantOrder(t, slices.Concat(list(take(1), take(2), take(3), take(4), take(5), take(6), take(7)), got(0, 7)), 0, 1, 2, 3, 4, 5, 6, 7)
	wantBad(t, slices.Concat(list(take(1), take(2), take(3), take(4), take(5), take(6), take(7)), got(0, 8)), api.BadGap, 7, 0)
}

// P11.1: an operation without a response has a greater number than those that precede it.
func TestTooLateForGap(t *testing.T) {
	wantBad(t, append(got(0, 1), take(1)), api.BadGap, 0, 0)
	wantBad(t, append(got(0, 1), take(0)), api.BadGap, 0, 0)
	wantOrder(t, list(take(0), take(1), end(0, 1)), 1, 0)
	wantOrder(t, slices.Concat(got(0, 0), list(take(1), take(2), end(2, 2))), 0, 1, 2)
	wantBad(t, slices.Concat(got(0, 0), got(2, 2), list(take(1))), api.BadGap, 1, 0)
	// The number may be greater than all that precede it, or only than those of some.
	l := list(take(0), take(1), end(0, 0), end(1, 3), take(2), take(3), take(4), end(4, 4))
	wantBad(t, l, api.BadGap, 1, 0)
	l[3] = end(1, 1)
	wantOrder(t, l, 0, 1, 2, 3, 4)
	// The second one is too late, though the first one is not.
	l = slices.Concat(list(take(0), take(1), take(2), end(0, 0), end(1, 4)), list(take(3)))
	wantBad(t, append(l, take(4), end(4, 3)), api.BadOrder, 1, 4)
	l = list(take(0), take(1), take(2), take(4), end(0, 0), end(1, 4), take(3), end(4, 3))
	wantBad(t, l, api.BadGap, 2, 0)
	l = list(take(0), take(1), take(2), take(4), end(0, 0), end(1, 4), take(3), end(4, 2))
	wantBad(t, l, api.BadGap, 3, 0)
	l = list(take(0), take(1), take(2), take(4), end(0, 0), end(4, 2), take(3), end(1, 4))
	wantOrder(t, l, 0, 2, 3, 4, 1)
}

// P11.1: the missing numbers are assigned in order, one to each operation, the first to the first.
func TestAssignment(t *testing.T) {
	// The second operation can have only 3; the first one 1 or 3.
	l := slices.Concat(got(0, 0), list(take(1), take(2), end(2, 2), take(3)), got(4, 4))
	wantOrder(t, l, 0, 1, 2, 3, 4)
	// Nobody but the first one can have 1, and nobody at all 3.
	l = slices.Concat(got(0, 0), list(take(1), take(2), end(2, 2)), got(4, 4), list(take(3)))
	wantBad(t, l, api.BadGap, 3, 0)
	// The second one has the smallest number that is left, even if it is too small for it, and there are more.
	l = slices.Concat(list(take(1)), got(0, 2), list(take(2), take(3)), got(0, 4))
	wantBad(t, l, api.BadGap, 1, 0)
}

// P11.1, P11.2: as many operations as there may be.
func TestMany(t *testing.T) {
	var l []api.Event
	var all []int
	for i := range 100 {
		l = append(l, got(i%api.MaxWho, i)...)
		all = append(all, i)
	}
	wantOrder(t, l, all...)
	l[199].Value = 98
	wantBad(t, l, api.BadTwice, 99, 98)
	l[199].Value = 0
	wantBad(t, l, api.BadTwice, 99, 0)
	l[199].Value = 100
	wantBad(t, l, api.BadGap, 99, 0)
	l[199].Value = 1000
	wantBad(t, l, api.BadGap, 99, 0)
	l[199].Value, l[197].Value = 98, 99
	wantBad(t, l, api.BadOrder, 98, 99)
	l[199].Value, l[197].Value, l[1].Value = 99, 0, 98
	wantBad(t, l, api.BadOrder, 0, 1)
	// Without the response of the last one, or of the first one.
	l[1].Value, l[197].Value = 0, 98
	wantOrder(t, l[:199], all[:99]...)
	l = append(list(take(7)), slices.Repeat(got(0, 0), 99)...)
	for i := range 99 {
		l[2*i+2].Value = i + 1
	}
	wantOrder(t, l, all...)
	wantBad(t, l[1:], api.BadGap, 0, 0)
}
