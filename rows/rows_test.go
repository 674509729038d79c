package rows

import (
	"math"
	"slices"
	"testing"

	"alibi/api"
)

// extremes are values around the ends of all ranges.
var extremes = []int{
	math.MinInt, math.MinInt + 1, -65536, -64, -16, -2, -1, 0, 1, 2, 3, 4, 5, 6, 7, 8, 9, 10, 11,
	15, 16, 17, 20, 63, 64, 65, 199, 200, 201, 255, 256, 300, 999, 1000, 1001, 65536, 1 << 32, math.MaxInt - 1, math.MaxInt,
}

// put returns the event by which a process calls an enqueue.
func put(who, value int) api.Event {
	return api.Event{Who: who, Kind: api.KEnq, Value: value}
}

// take returns the event by which a process calls a dequeue.
func take(who int) api.Event {
	return api.Event{Who: who, Kind: api.KDeq}
}

// end returns the event by which a process gets a response.
func end(who, value int) api.Event {
	return api.Event{Who: who, Kind: api.KEnd, Value: value}
}

// did returns the two events of an enqueue that overlaps with no other operation.
func did(who, value int) []api.Event {
	return []api.Event{put(who, value), end(who, 0)}
}

// got returns the two events of a dequeue that overlaps with no other operation.
func got(who, value int) []api.Event {
	return []api.Event{take(who), end(who, value)}
}

// list returns the events in a list.
func list(l ...api.Event) []api.Event { return l }

// span returns an interval.
func span(from, to int) api.Span { return api.Span{From: from, To: to} }

func wantStays(t *testing.T, l []api.Event, want ...api.Span) {
	t.Helper()
	if stays, e := Stays(l); !slices.Equal(stays, want) || e != api.OK {
		t.Errorf("Stays(%v) = %v, %d; want %v, 0", l, stays, e, want)
	}
}

func wantGood(t *testing.T, l []api.Event) {
	t.Helper()
	if is, bad, e := Check(l); !is || bad != (api.Bad{}) || e != api.OK {
		t.Errorf("Check(%v) = %v, %v, %d; want true, {0 0 0}, 0", l, is, bad, e)
	}
}

func wantBad(t *testing.T, l []api.Event, kind, a, b int) {
	t.Helper()
	want := api.Bad{Kind: kind, A: a, B: b}
	if is, bad, e := Check(l); is || bad != want || e != api.OK {
		t.Errorf("Check(%v) = %v, %v, %d; want false, %v, 0", l, is, bad, e, want)
	}
}

// wantError checks that both functions return the error and no more.
func wantError(t *testing.T, l []api.Event, want api.Errno) {
	t.Helper()
	if stays, e := Stays(l); stays != nil || e != want {
		t.Errorf("Stays(%v) = %v, %d; want nil, %d", l, stays, e, want)
	}
	if is, bad, e := Check(l); is || bad != (api.Bad{}) || e != want {
		t.Errorf("Check(%v) = %v, %v, %d; want false, {0 0 0}, %d", l, is, bad, e, want)
	}
}

// sample returns a history in which 20 overtakes 300, and its stays.
func sample() ([]api.Event, []api.Span) {
	l := []api.Event{
		put(0, 900), end(0, 0),
		take(1), put(2, 300), end(2, 0), end(1, 900),
		take(3), put(4, 20), end(3, 20),
		put(5, 1000), take(6), end(5, 0), end(6, -1),
		put(7, 44),
	}
	return l, []api.Span{span(4, 199), span(1, 1), span(11, 199)}
}

// P1: no function panics or runs forever, whatever an argument is.
func TestAnyArgument(t *testing.T) {
	l, _ := sample()
	for _, n := range extremes {
		for _, m := range extremes {
			for at := range l {
				changed := slices.Clone(l)
				changed[at].Kind = n
				changed[at].Value = m
				Stays(changed)
				Check(changed)
				changed = slices.Clone(l)
				changed[at].Who = n
				changed[at].Thing = m
				Stays(changed)
				Check(changed)
				changed = slices.Clone(l)
				changed[at].Who = n
				changed[at].Value = m
				Stays(changed)
				Check(changed)
			}
		}
	}
	Stays(make([]api.Event, 100_000))
	Check(make([]api.Event, 100_000))
}

// P2: the argument, with its spare capacity, is as it was.
func TestArgumentsAreKept(t *testing.T) {
	l, _ := sample()
	for n := range len(l) + 1 {
		many := append(slices.Clone(l), end(-11, -12), end(-13, -14))
		Stays(many[:n])
		Check(many[:n])
		if !slices.Equal(many, append(slices.Clone(l), end(-11, -12), end(-13, -14))) {
			t.Error(many)
		}
	}
}

// P2: overwriting one result, with its spare capacity, changes no other result.
func TestResultsAreNew(t *testing.T) {
	l, want := sample()
	first, _ := Stays(l)
	second, _ := Stays(l)
	first = first[:cap(first)]
	for i := range first {
		first[i] = span(-99, -99)
	}
	if !slices.Equal(second, want) {
		t.Error(second)
	}
	wantStays(t, l, want...)
}

// P2: the results of a call do not depend on the calls before it.
func TestNoStateIsKept(t *testing.T) {
	l, stays := sample()
	for range 3 {
		wantStays(t, l, stays...)
		wantBad(t, l, api.BadOrder, 300, 20)
		wantGood(t, nil)
		wantStays(t, nil)
		wantError(t, append(slices.Clone(l), put(0, 300)), api.ErrClass)
		wantGood(t, did(0, 300))
		wantStays(t, did(0, 300), span(1, 199))
		wantError(t, l[1:], api.ErrNone)
	}
}

// P9: the error of history.Calls comes first; the only object is a queue.
func TestErrorsOfCalls(t *testing.T) {
	l, _ := sample()
	l = append(l, take(0))
	twice := slices.Concat(did(3, 9), did(3, 9))
	wantError(t, slices.Repeat(got(0, -1), 101), api.ErrLarge)
	wantError(t, slices.Repeat(list(end(9, 9)), 201), api.ErrLarge)
	wantError(t, slices.Repeat(did(0, 9), 101), api.ErrLarge)
	wantError(t, append(slices.Repeat(got(0, -1), 100), take(0)), api.ErrLarge)
	for _, c := range []struct {
		event api.Event
		want  api.Errno
	}{
		{take(8), api.ErrForm},
		{take(-1), api.ErrForm},
		{put(5, 1001), api.ErrForm},
		{put(5, 0), api.ErrForm},
		{put(5, -1), api.ErrForm},
		{api.Event{Who: 5, Kind: api.KDeq, Value: 1}, api.ErrForm},
		{api.Event{Who: 5, Kind: api.KDeq, Value: -1}, api.ErrForm},
		{api.Event{Who: 5, Kind: api.KDeq, Thing: 1}, api.ErrForm},
		{api.Event{Who: 5, Kind: api.KDeq, Thing: -1}, api.ErrForm},
		{api.Event{Who: 5, Kind: api.KWrite, Value: 1}, api.ErrForm},
		{api.Event{Who: 5, Kind: api.KRead}, api.ErrForm},
		{api.Event{Who: 5, Kind: api.KPush, Value: 1}, api.ErrForm},
		{api.Event{Who: 5, Kind: api.KPop}, api.ErrForm},
		{api.Event{Who: 5, Kind: api.KAdd, Value: 1}, api.ErrForm},
		{api.Event{Who: 5, Kind: api.KTake}, api.ErrForm},
		{api.Event{Who: 5, Kind: 11}, api.ErrForm},
		{end(2, 0), api.ErrNone},
		{end(7, 1), api.ErrForm},
		{end(4, -1), api.ErrForm},
		{end(0, 0), api.ErrForm},
		{end(0, -2), api.ErrForm},
		{end(0, 1001), api.ErrForm},
		{api.Event{Who: 7, Thing: 1}, api.ErrForm},
		{take(7), api.ErrTwice},
		{put(0, 45), api.ErrTwice},
	} {
		wantError(t, append(slices.Clone(l), c.event), c.want)
		wantError(t, slices.Concat(l, list(take(1), c.event)), c.want)
		wantError(t, slices.Concat(l, list(c.event), twice), c.want)
		wantError(t, slices.Concat(twice, l, list(c.event)), c.want)
	}
}

// P9: two enqueues of one value are an error, with responses or without.
func TestEnqueuedTwice(t *testing.T) {
	for _, value := range []int{1, 2, 63, 64, 1000} {
		wantError(t, slices.Concat(did(0, value), did(0, value)), api.ErrClass)
		wantError(t, list(put(0, value), end(0, 0), put(0, value)), api.ErrClass)
		wantError(t, list(put(0, value), put(1, value), end(1, 0)), api.ErrClass)
		wantError(t, list(put(0, value), put(1, value)), api.ErrClass)
		wantError(t, slices.Concat(did(0, value), got(3, value), did(2, 5), did(1, value)), api.ErrClass)
		wantError(t, slices.Concat(got(4, 7), got(4, 7), did(0, value), got(3, value), did(1, value)), api.ErrClass)
		wantGood(t, slices.Concat(did(0, value), did(0, value%1000+1)))
	}
	// There may be 100 values with responses.
	var l []api.Event
	for i := range 100 {
		l = append(l, did(i%api.MaxWho, 1000-i)...)
	}
	wantGood(t, l)
	l[198].Value = 1000
	wantError(t, l, api.ErrClass)
	l[198].Value = 902
	wantError(t, l, api.ErrClass)
}

// P9: a dequeue without a response is an error, but an enqueue without one is not.
func TestDequeueWithoutResponse(t *testing.T) {
	wantError(t, list(take(0)), api.ErrClass)
	wantError(t, append(did(0, 5), take(0)), api.ErrClass)
	wantError(t, slices.Concat(list(take(3)), did(0, 5), got(0, 5)), api.ErrClass)
	wantError(t, slices.Concat(list(take(3)), got(0, 5), got(0, 5)), api.ErrClass)
	wantError(t, list(take(3), take(2), end(2, -1)), api.ErrClass)
	wantError(t, append(slices.Repeat(got(0, -1), 99), take(0)), api.ErrClass)
	wantGood(t, list(put(0, 5)))
	wantGood(t, append(got(0, -1), put(0, 5), put(1, 4)))
}

// P9.1: a value is in the queue from the end of its enqueue until its dequeue begins.
func TestStays(t *testing.T) {
	l, stays := sample()
	wantStays(t, l, stays...)
	wantStays(t, nil)
	wantStays(t, []api.Event{})
	wantStays(t, got(0, -1))
	wantStays(t, slices.Concat(did(0, 7), got(1, 7)), span(1, 1))
	wantStays(t, slices.Concat(did(0, 7), got(1, -1), got(1, 7)), span(1, 3))
	wantStays(t, slices.Concat(did(0, 7), list(take(1)), got(2, -1), list(end(1, 7))), span(1, 1))
	wantStays(t, slices.Concat(list(put(0, 7)), got(1, -1), list(end(0, 0)), got(1, -1), got(1, 7)), span(3, 5))
	// Without a dequeue it stays until the last event that there may be.
	wantStays(t, did(0, 7), span(1, 199))
	wantStays(t, slices.Concat(did(0, 7), got(1, -1)), span(1, 199))
	wantStays(t, append(slices.Repeat(got(1, -1), 99), did(0, 7)...), span(199, 199))
	// A dequeue that finds no value dequeues none.
	wantStays(t, slices.Concat(did(0, 1), got(1, -1), got(1, 1)), span(1, 3))
}

// P9.1: the intervals are in the order of the values, not of the operations.
func TestOrderOfStays(t *testing.T) {
	wantStays(t, slices.Concat(did(0, 1000), did(0, 64), did(0, 1), did(0, 999), got(1, 64), did(0, 65)),
		span(5, 199), span(3, 7), span(11, 199), span(7, 199), span(1, 199))
	var l []api.Event
	var want []api.Span
	for value := 100; value > 0; value-- {
		want = append(want, span(2*value-1, 199))
		l = append(l, did(value%8, value)...)
	}
	wantStays(t, l, want...)
}

// P9.1: values whose enqueue has no response, or whose dequeue begins before it has, are omitted.
func TestStaysOmitted(t *testing.T) {
	wantStays(t, list(put(0, 7)))
	wantStays(t, append(list(put(0, 7)), got(1, 7)...))
	wantStays(t, slices.Concat(list(put(0, 7)), did(1, 8), got(1, 8)), span(2, 2))
	wantStays(t, list(put(0, 7), take(1), end(0, 0), end(1, 7)))
	wantStays(t, list(put(0, 7), take(1), end(1, 7), end(0, 0)))
	wantStays(t, list(take(1), put(0, 7), end(0, 0), end(1, 7)))
	wantStays(t, slices.Concat(got(1, 7), did(0, 7)))
	wantStays(t, slices.Concat(did(0, 5), list(take(1)), did(0, 7), list(end(1, 7))), span(1, 199))
	// A value that is not enqueued has none.
	wantStays(t, got(1, 7))
	wantStays(t, slices.Concat(got(1, 7), did(0, 6)), span(3, 199))
}

// P9.1: it is the first operation with the value that dequeues it, whichever ends first.
func TestStaysUntilTheFirstDequeue(t *testing.T) {
	wantStays(t, slices.Concat(did(0, 7), got(1, -1), got(1, 7), got(1, 7)), span(1, 3))
	wantStays(t, slices.Concat(did(0, 7), list(take(1), take(2), end(2, 7), end(1, 7))), span(1, 1))
	wantStays(t, slices.Concat(did(0, 7), list(take(2)), got(1, 7), list(end(2, 7))), span(1, 1))
	wantStays(t, slices.Concat(got(1, 7), did(0, 7), got(1, 7)))
}

// P9.2: histories without a violation.
func TestGood(t *testing.T) {
	for _, l := range [][]api.Event{
		nil,
		{},
		got(0, -1),
		slices.Repeat(got(0, -1), 100),
		did(0, 1000),
		slices.Concat(got(0, -1), did(0, 5), did(1, 4), got(2, 5), did(3, 9), got(2, 4), got(2, 9), got(2, -1)),
		// Enqueues that overlap have the order that the dequeues say.
		slices.Concat(list(put(0, 5), put(1, 3), end(0, 0), end(1, 0)), got(2, 5), got(2, 3)),
		slices.Concat(list(put(0, 5), put(1, 3), end(0, 0), end(1, 0)), got(2, 3), got(2, 5)),
		slices.Concat(list(put(0, 5), put(1, 3), end(0, 0), end(1, 0)), got(2, 3)),
		// Dequeues that overlap have the order that the enqueues say.
		slices.Concat(did(0, 5), did(0, 3), list(take(1), take(2), end(1, 3), end(2, 5))),
		slices.Concat(did(0, 5), did(0, 3), list(take(1), take(2), end(2, 3), end(1, 5))),
		// An enqueue without a response takes effect before its value is dequeued, or never.
		slices.Concat(list(put(0, 5)), got(1, -1), did(1, 3), got(1, 3), got(1, -1), got(1, 5), got(1, -1)),
		slices.Concat(list(put(0, 5)), did(1, 3), got(1, 5), got(1, 3)),
		slices.Concat(list(put(0, 5)), did(1, 3), got(1, 3), got(1, -1)),
		// A dequeue begins before the enqueue of its value.
		list(take(0), put(1, 5), end(0, 5)),
		list(take(0), put(1, 5), end(1, 0), end(0, 5)),
	} {
		wantGood(t, l)
	}
}

// P9.2: a dequeue of a value that no operation enqueues is reported first, by its index among the operations.
func TestStray(t *testing.T) {
	wantBad(t, got(0, 7), api.BadStray, 0, 0)
	wantBad(t, got(0, 1), api.BadStray, 0, 0)
	wantBad(t, got(0, 1000), api.BadStray, 0, 0)
	wantBad(t, slices.Concat(got(0, -1), did(1, 6), got(0, 7)), api.BadStray, 2, 0)
	wantBad(t, slices.Concat(did(1, 6), did(1, 8), got(0, 9), got(0, 7)), api.BadStray, 2, 0)
	// Of two dequeues, the one with the first invocation: neither that with the first response nor that of the smaller value.
	wantBad(t, list(put(3, 6), take(0), take(1), end(1, 7), end(0, 8)), api.BadStray, 1, 0)
	wantBad(t, list(take(2), take(0), take(1), end(1, 7), end(0, 8), end(2, -1)), api.BadStray, 1, 0)
	// A dequeue that finds no value is none.
	wantGood(t, list(put(3, 6), take(0), end(0, -1)))
	// All other violations come after it, wherever they are.
	wantBad(t, slices.Concat(got(0, 5), did(0, 5), got(0, 5), did(0, 4), did(0, 3), got(0, 3), got(0, -1), got(0, 7)), api.BadStray, 7, 0)
}

// P9.2: a second dequeue of a value is reported next, with the first one.
func TestTwice(t *testing.T) {
	wantBad(t, slices.Concat(did(0, 7), got(0, 7), got(0, 7)), api.BadTwice, 2, 1)
	wantBad(t, slices.Concat(did(0, 7), list(take(0), take(1), end(0, 7), end(1, 7))), api.BadTwice, 2, 1)
	wantBad(t, slices.Concat(did(0, 7), list(take(0), take(1), end(1, 7), end(0, 7))), api.BadTwice, 2, 1)
	wantBad(t, slices.Concat(list(put(0, 7)), got(1, 7), got(1, -1), got(1, 7)), api.BadTwice, 3, 1)
	// The first dequeue is the one that counts, before and after the enqueue, and for a third one.
	wantBad(t, slices.Concat(got(0, 7), did(0, 7), got(0, 7)), api.BadTwice, 2, 0)
	wantBad(t, slices.Concat(got(0, 7), got(0, 7), did(0, 7)), api.BadTwice, 1, 0)
	wantBad(t, slices.Concat(did(0, 7), got(0, 7), got(0, 7), got(0, 7)), api.BadTwice, 2, 1)
	// Of two values, the one whose second dequeue is smaller.
	wantBad(t, slices.Concat(did(0, 7), did(0, 3), got(0, 3), got(0, 7), got(0, 7), got(0, 3)), api.BadTwice, 4, 3)
	wantBad(t, slices.Concat(did(0, 7), did(0, 3), got(0, 3), got(0, 7), got(0, 3), got(0, 7)), api.BadTwice, 4, 2)
	// Two dequeues that find no value are none.
	wantGood(t, slices.Concat(got(0, -1), got(0, -1), did(0, 7), got(0, 7), got(0, -1)))
	// The following violations come after it.
	wantBad(t, slices.Concat(got(0, 5), did(0, 5), did(0, 4), did(0, 3), got(0, 3), got(0, -1), got(0, 3)), api.BadTwice, 6, 4)
}

// P9.2: a dequeue that ends before the enqueue of its value begins is reported next, with the enqueue.
func TestEarly(t *testing.T) {
	wantBad(t, slices.Concat(got(0, 7), did(0, 7)), api.BadEarly, 0, 1)
	wantBad(t, append(got(0, 7), put(0, 7)), api.BadEarly, 0, 1)
	wantBad(t, slices.Concat(got(0, -1), got(0, 7), did(1, 6), got(0, 6), did(1, 7)), api.BadEarly, 1, 4)
	wantBad(t, slices.Concat(did(0, 6), list(take(0)), got(1, 7), list(put(1, 7), end(0, 6))), api.BadEarly, 2, 3)
	wantGood(t, list(take(0), put(1, 7), end(0, 7)))
	// Of two dequeues, the one with the first invocation.
	wantBad(t, slices.Concat(list(take(0), take(1), end(1, 7), end(0, 8)), did(2, 7), did(2, 8)), api.BadEarly, 0, 3)
	wantBad(t, slices.Concat(list(take(0), take(1), end(1, 8), end(0, 7)), did(2, 8), did(2, 7)), api.BadEarly, 0, 3)
	wantBad(t, slices.Concat(list(take(0), take(1), end(1, 8), end(0, 7)), did(2, 7), did(2, 8)), api.BadEarly, 0, 2)
	// The following violations come after it.
	wantBad(t, slices.Concat(did(0, 1), did(0, 2), got(0, 2), got(0, -1), got(0, 3), did(0, 3)), api.BadEarly, 4, 5)
}

// P9.2: a value that is enqueued after another one, but dequeued before it or alone.
func TestUnordered(t *testing.T) {
	for _, c := range [][2]int{{1, 2}, {2, 1}, {5, 3}, {1, 1000}} {
		a, b := c[0], c[1]
		both := slices.Concat(did(0, a), did(0, b))
		wantBad(t, slices.Concat(both, got(1, b), got(1, a)), api.BadOrder, a, b)
		wantBad(t, slices.Concat(both, got(1, b)), api.BadOrder, a, b)
		wantBad(t, slices.Concat(both, list(take(1)), got(2, b), got(3, a), list(end(1, -1))), api.BadOrder, a, b)
		// The enqueue of B needs no response.
		wantBad(t, slices.Concat(did(0, a), list(put(0, b)), got(1, b), got(1, a)), api.BadOrder, a, b)
		wantBad(t, slices.Concat(did(0, a), list(put(0, b)), got(1, b)), api.BadOrder, a, b)
		wantBad(t, slices.Concat(did(0, a), list(take(1), put(0, b), end(1, b))), api.BadOrder, a, b)
		// But that of A does, and has to end before that of B begins.
		wantGood(t, slices.Concat(list(put(2, a)), did(0, b), got(1, b), got(1, a)))
		wantGood(t, slices.Concat(list(put(2, a)), did(0, b), got(1, b)))
		wantGood(t, slices.Concat(list(put(2, a), put(0, b), end(2, 0), end(0, 0)), got(1, b), got(1, a)))
		wantGood(t, slices.Concat(list(put(2, a), put(0, b), end(2, 0)), got(1, b), list(end(0, 0))))
		// The dequeues overlap, or are in order.
		wantGood(t, slices.Concat(both, list(take(1), take(2), end(2, b), end(1, a))))
		wantGood(t, slices.Concat(both, list(take(2), take(1), end(2, b), end(1, a))))
		wantGood(t, slices.Concat(both, got(1, a), got(1, b)))
		// B is not dequeued.
		wantGood(t, slices.Concat(both, got(1, a)))
		wantGood(t, both)
	}
}

// P9.2: of several pairs, the one with the smallest A, and for it the smallest B.
func TestSmallestUnordered(t *testing.T) {
	all := slices.Concat(did(0, 5), did(0, 9), did(0, 7), did(0, 3))
	wantBad(t, slices.Concat(all, got(1, 3), got(1, 7), got(1, 9), got(1, 5)), api.BadOrder, 5, 3)
	wantBad(t, slices.Concat(all, got(1, 7), got(1, 9), got(1, 5), got(1, 3)), api.BadOrder, 5, 7)
	wantBad(t, slices.Concat(all, got(1, 9), got(1, 5), got(1, 7), got(1, 3)), api.BadOrder, 5, 9)
	wantBad(t, slices.Concat(all, got(1, 9), got(1, 7)), api.BadOrder, 5, 7)
	wantBad(t, slices.Concat(all, got(1, 5), got(1, 7), got(1, 9), got(1, 3)), api.BadOrder, 9, 7)
	wantBad(t, slices.Concat(all, got(1, 5), got(1, 7), got(1, 3)), api.BadOrder, 9, 3)
	wantBad(t, slices.Concat(all, got(1, 5), got(1, 9), got(1, 3)), api.BadOrder, 7, 3)
	first := slices.Concat(did(0, 15), did(0, 19), got(1, 19), got(1, 15))
	second := slices.Concat(did(0, 2), did(0, 20), did(0, 11), got(1, 11), got(1, 20), got(1, 2))
	third := slices.Concat(did(0, 13), did(0, 1), got(1, 1), got(1, 13))
	wantBad(t, slices.Concat(first, second, third), api.BadOrder, 2, 11)
	wantBad(t, slices.Concat(third, second, first), api.BadOrder, 2, 11)
	wantBad(t, slices.Concat(first, third), api.BadOrder, 13, 1)
	// It comes before a dequeue that should have found a value.
	wantBad(t, slices.Concat(did(0, 50), got(1, -1), got(1, 50), first), api.BadOrder, 15, 19)
	wantBad(t, slices.Concat(first, did(0, 50), got(1, -1), got(1, 50)), api.BadOrder, 15, 19)
}

// P9.2: a dequeue that finds no value though there is one all the time.
func TestEmpty(t *testing.T) {
	wantBad(t, slices.Concat(did(0, 7), got(1, -1)), api.BadEmpty, 1, 0)
	wantBad(t, slices.Concat(did(0, 7), got(1, -1), got(1, 7)), api.BadEmpty, 1, 0)
	wantBad(t, slices.Concat(got(1, -1), did(0, 7), got(1, 7), got(1, -1), did(0, 8), got(1, -1)), api.BadEmpty, 5, 0)
	// The stay begins after the invocation, or ends before the response, by one event.
	wantGood(t, slices.Concat(list(put(0, 7), take(1), end(0, 0), end(1, -1)), got(1, 7)))
	wantGood(t, slices.Concat(did(0, 7), list(take(1), take(2), end(1, -1), end(2, 7))))
	wantBad(t, slices.Concat(did(0, 7), list(take(1), end(1, -1), take(2), end(2, 7))), api.BadEmpty, 1, 0)
	wantBad(t, slices.Concat(list(put(0, 7), end(0, 0), take(1), end(1, -1)), got(2, 7)), api.BadEmpty, 1, 0)
	// The enqueue may not have taken effect, or the dequeue of the value may have.
	wantGood(t, append(list(put(0, 7)), got(1, -1)...))
	wantGood(t, slices.Concat(list(put(0, 7)), got(1, -1), list(end(0, 0))))
	wantGood(t, slices.Concat(list(put(0, 7)), got(1, -1), got(1, 7)))
	wantGood(t, slices.Concat(did(0, 7), list(take(2)), got(1, -1), list(end(2, 7))))
	// Two intervals cover the dequeue together, but neither does alone.
	wantBad(t, slices.Concat(did(0, 7), list(take(1)), did(0, 8), got(2, 7), list(end(1, -1)), got(2, 8)), api.BadEmpty, 1, 0)
	wantBad(t, slices.Concat(did(0, 8), list(take(1)), did(0, 7), got(2, 8), list(end(1, -1)), got(2, 7)), api.BadEmpty, 1, 0)
	wantBad(t, slices.Concat(did(0, 7), list(take(1), put(0, 8), end(0, 0), take(2), end(1, -1), end(2, 7))), api.BadEmpty, 1, 0)
	// There is a moment between them.
	wantGood(t, slices.Concat(did(0, 7), list(take(1), put(0, 8), take(2), end(0, 0), end(1, -1), end(2, 7)), got(2, 8)))
	wantGood(t, slices.Concat(did(0, 7), list(take(1)), got(2, 7), did(0, 8), list(end(1, -1)), got(2, 8)))
	// Values after one another: each is there only for a time.
	wantBad(t, slices.Concat(did(0, 1), list(take(1)), did(0, 2), got(2, 1), did(0, 3), got(2, 2), did(0, 4), got(2, 3), list(end(1, -1))), api.BadEmpty, 1, 0)
	wantGood(t, slices.Concat(did(0, 1), list(take(1)), did(0, 2), got(2, 1), got(2, 2), did(0, 3), did(0, 4), got(2, 3), list(end(1, -1))))
	// Of two dequeues, the one with the first invocation.
	wantBad(t, slices.Concat(did(0, 7), list(take(2), take(1), end(1, -1), end(2, -1))), api.BadEmpty, 1, 0)
	wantBad(t, slices.Concat(list(take(2)), did(0, 7), got(1, -1), got(1, -1), list(end(2, -1))), api.BadEmpty, 2, 0)
}

// P9.2: one violation of each kind, removed one after the other.
func TestOrderOfViolations(t *testing.T) {
	l := slices.Concat(did(0, 8), did(0, 6), got(1, 6), got(1, 8), got(1, -1), got(1, 4), did(0, 4), got(1, 4), got(1, 3))
	wantBad(t, l, api.BadStray, 8, 0)
	l[17].Value = -1
	wantBad(t, l, api.BadTwice, 7, 5)
	l[15].Value = -1
	wantBad(t, l, api.BadEarly, 5, 6)
	l[11].Value = -1
	wantBad(t, l, api.BadOrder, 8, 6)
	l[5].Value, l[7].Value = 8, 6
	wantBad(t, l, api.BadEmpty, 7, 0)
	l[15].Value = 4
	wantGood(t, l)
}

// P9.2: a queue may have any number of elements, more than those of chapter 4.
func TestManyElements(t *testing.T) {
	for _, n := range []int{50, 51, 60, 99, 100} {
		var l []api.Event
		for value := 1; value <= n; value++ {
			l = append(l, did(value%8, value*10)...)
		}
		for value := 1; value <= 100-n; value++ {
			l = append(l, got(value%7, value*10)...)
		}
		wantGood(t, l)
		if n == 100 {
			continue
		}
		l[199].Value = -1
		wantBad(t, l, api.BadEmpty, 99, 0)
		l[199].Value = n*10 + 1
		wantBad(t, l, api.BadStray, 99, 0)
	}
}

// P9.2: violations of the last operations that there may be.
func TestManyEvents(t *testing.T) {
	var l []api.Event
	for value := 1; value <= 50; value++ {
		l = append(l, did(value%8, value*20)...)
		l = append(l, got(value%7, value*20)...)
	}
	wantGood(t, l)
	changed := slices.Clone(l)
	changed[199].Value = 980
	wantBad(t, changed, api.BadTwice, 99, 97)
	changed[199].Value = -1
	wantBad(t, changed, api.BadEmpty, 99, 0)
	changed[199].Value = 999
	wantBad(t, changed, api.BadStray, 99, 0)
	changed = slices.Clone(l)
	changed[3].Value, changed[199].Value = 1000, -1
	wantBad(t, changed, api.BadEarly, 1, 98)
	changed = slices.Clone(l)
	changed[195].Value, changed[199].Value = -1, 980
	wantBad(t, changed, api.BadEmpty, 97, 0)
	changed = slices.Concat(l[:192], did(0, 980), did(0, 1000), got(0, 1000), got(0, 980))
	wantBad(t, changed, api.BadOrder, 980, 1000)
	wantBad(t, changed[:198], api.BadOrder, 980, 1000)
	changed = slices.Concat(l[:192], did(0, 980), did(0, 1000), list(take(0), take(1), end(0, 1000), end(1, 980)))
	wantGood(t, changed)
}
