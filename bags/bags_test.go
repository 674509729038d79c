package bags

import (
	"math"
	"slices"
	"testing"

	"alibi/api"
)

// extremes are values around the ends of all ranges.
var extremes = []int{
	math.MinInt, math.MinInt + 1, -65536, -64, -16, -2, -1, 0, 1, 2, 3, 4, 5, 6, 7, 8, 9, 10, 11,
	15, 16, 17, 31, 63, 64, 65, 199, 200, 201, 255, 256, 999, 1000, 1001, 65536, 1 << 32, math.MaxInt - 1, math.MaxInt,
}

// kinds are the operations of a set.
var kinds = []int{api.KAdd, api.KRemove, api.KHas}

// call returns the event by which a process calls an operation.
func call(who, kind, n int) api.Event {
	return api.Event{Who: who, Kind: kind, Value: n}
}

// end returns the event by which a process gets a response.
func end(who, result int) api.Event {
	return api.Event{Who: who, Kind: api.KEnd, Value: result}
}

// add returns the two events of a KAdd that overlaps with no other operation.
func add(who, n, result int) []api.Event {
	return list(call(who, api.KAdd, n), end(who, result))
}

// remove returns the two events of a KRemove that overlaps with no other operation.
func remove(who, n, result int) []api.Event {
	return list(call(who, api.KRemove, n), end(who, result))
}

// has returns the two events of a KHas that overlaps with no other operation.
func has(who, n, result int) []api.Event {
	return list(call(who, api.KHas, n), end(who, result))
}

// list returns the events in a list.
func list(l ...api.Event) []api.Event { return l }

func wantPart(t *testing.T, l []api.Event, n int, want ...api.Event) {
	t.Helper()
	if part, e := Part(l, n); !slices.Equal(part, want) || e != api.OK {
		t.Errorf("Part(%v, %d) = %v, %d; want %v, 0", l, n, part, e, want)
	}
}

func wantPartError(t *testing.T, l []api.Event, n int, want api.Errno) {
	t.Helper()
	if part, e := Part(l, n); len(part) != 0 || e != want {
		t.Errorf("Part(%v, %d) = %v, %d; want none, %d", l, n, part, e, want)
	}
}

// wantBad checks that the parts of these elements are not linearizable, and no others.
func wantBad(t *testing.T, l []api.Event, want ...int) {
	t.Helper()
	if bad, e := Check(l); !slices.Equal(bad, want) || e != api.OK {
		t.Errorf("Check(%v) = %v, %d; want %v, 0", l, bad, e, want)
	}
}

func wantBadError(t *testing.T, l []api.Event, want api.Errno) {
	t.Helper()
	if bad, e := Check(l); len(bad) != 0 || e != want {
		t.Errorf("Check(%v) = %v, %d; want none, %d", l, bad, e, want)
	}
}

// wantErrors checks that both functions return the error, whatever the other argument of Part is.
func wantErrors(t *testing.T, l []api.Event, want api.Errno) {
	t.Helper()
	wantBadError(t, l, want)
	for _, n := range []int{math.MinInt, -1, 0, 1, 6, 1000, 1001, math.MaxInt} {
		wantPartError(t, l, n, want)
	}
}

// sample returns a history, in which the parts of 4 and 300 are not linearizable.
func sample() []api.Event {
	return list(
		call(0, api.KAdd, 300), call(1, api.KHas, 6), end(0, 1), call(0, api.KRemove, 300),
		call(2, api.KAdd, 6), end(1, 1), end(0, 0), end(2, 1),
		call(3, api.KHas, 4), end(3, 1), call(3, api.KAdd, 1), end(3, 1), call(4, api.KRemove, 1),
		call(5, api.KAdd, 1000), call(6, api.KHas, 1000),
	)
}

// P1: no function panics or runs forever, whatever an argument is.
func TestAnyArgument(t *testing.T) {
	for _, n := range extremes {
		for _, m := range extremes {
			for at := range sample() {
				for _, change := range []func(*api.Event){
					func(event *api.Event) { event.Kind, event.Value = n, m },
					func(event *api.Event) { event.Who, event.Thing = n, m },
					func(event *api.Event) { event.Who, event.Value = n, m },
				} {
					l := sample()
					change(&l[at])
					Part(l, n)
					Part(l, m)
					Check(l)
				}
			}
		}
	}
	Part(make([]api.Event, 100_000), 1)
	Check(make([]api.Event, 100_000))
}

// P1: as many operations that overlap as there may be, of one element and of several.
func TestManyOverlap(t *testing.T) {
	var l, ends []api.Event
	for who := range api.MaxWho {
		l = append(l, call(who, kinds[who%3], 5))
		ends = append(ends, end(who, 1))
	}
	wantBad(t, slices.Concat(l, ends, has(0, 5, 0)))
	wantBad(t, slices.Concat(l, ends, has(0, 5, 1)), 5)
	wantBad(t, slices.Concat(l, ends[1:], has(1, 5, 0)))
	wantBad(t, slices.Concat(l, ends[1:], has(1, 5, 1)), 5)
	ends[0], ends[3] = end(0, 0), end(3, 0)
	wantBad(t, slices.Concat(l, ends), 5)
	ends[1], ends[4] = end(1, 0), end(4, 0)
	wantBad(t, slices.Concat(l, ends))
	var rounds, want []api.Event
	for n := 1; n <= 12; n++ {
		for who := range api.MaxWho {
			rounds = append(rounds, call(who, api.KAdd, n))
		}
		for who := range api.MaxWho {
			rounds = append(rounds, end(who, who/7))
		}
		if n == 9 {
			want = rounds[8*16:]
		}
	}
	wantBad(t, rounds)
	wantPart(t, rounds, 9, want...)
}

// P2: the argument, with its spare capacity, is as it was.
func TestArgumentsAreKept(t *testing.T) {
	for n := range len(sample()) + 1 {
		many := append(sample(), end(-11, -12), end(-13, -14))
		for _, element := range []int{0, 1, 4, 6, 300, 1000} {
			Part(many[:n], element)
		}
		Check(many[:n])
		if !slices.Equal(many, append(sample(), end(-11, -12), end(-13, -14))) {
			t.Error(many)
		}
	}
}

// P2: overwriting one result, with its spare capacity, changes neither the argument nor any other result.
func TestResultsAreNew(t *testing.T) {
	only := slices.Concat(add(0, 7, 1), has(1, 7, 1), remove(2, 7, 1), list(call(0, api.KAdd, 7)))
	for _, l := range [][]api.Event{only, append(slices.Clone(only), has(3, 8, 1)...)} {
		given := slices.Clone(l)
		first, _ := Part(l, 7)
		second, _ := Part(l, 7)
		first = first[:cap(first)]
		for i := range first {
			first[i] = end(-99, -99)
		}
		if !slices.Equal(second, only) || !slices.Equal(l, given) {
			t.Error(second, l)
		}
		wantPart(t, l, 7, only...)
	}
	l := sample()
	first, _ := Check(l)
	second, _ := Check(l)
	first = first[:cap(first)]
	for i := range first {
		first[i] = -99
	}
	if !slices.Equal(second, []int{4, 300}) || !slices.Equal(l, sample()) {
		t.Error(second, l)
	}
	wantBad(t, l, 4, 300)
}

// P2: the results of a call do not depend on the calls before it.
func TestNoStateIsKept(t *testing.T) {
	l := sample()
	for range 3 {
		wantBad(t, l, 4, 300)
		wantPart(t, l, 6, l[1], l[4], l[5], l[7])
		wantBad(t, nil)
		wantPart(t, nil, 6)
		wantErrors(t, append(sample(), call(4, api.KAdd, 6)), api.ErrTwice)
		wantBadError(t, slices.Repeat(has(0, 6, 1), 10), api.ErrLarge)
		wantPartError(t, l, 0, api.ErrArg)
		wantBad(t, has(0, 6, 1), 6)
		wantPart(t, has(0, 6, 1), 6, has(0, 6, 1)...)
	}
}

// P10.1, P10.2: the error of history.Calls comes first; the only object is a set.
func TestErrorsOfCalls(t *testing.T) {
	many := slices.Repeat(has(7, 9, 1), 10)
	for _, c := range []struct {
		event api.Event
		want  api.Errno
	}{
		{call(8, api.KAdd, 1), api.ErrForm},
		{call(-1, api.KAdd, 1), api.ErrForm},
		{call(7, api.KAdd, 0), api.ErrForm},
		{call(7, api.KAdd, -1), api.ErrForm},
		{call(7, api.KAdd, 1001), api.ErrForm},
		{call(7, api.KRemove, 0), api.ErrForm},
		{call(7, api.KRemove, 1001), api.ErrForm},
		{call(7, api.KHas, 0), api.ErrForm},
		{call(7, api.KHas, 1001), api.ErrForm},
		{call(7, api.KWrite, 1), api.ErrForm},
		{call(7, api.KRead, 0), api.ErrForm},
		{call(7, api.KEnq, 1), api.ErrForm},
		{call(7, api.KDeq, 0), api.ErrForm},
		{call(7, api.KPush, 1), api.ErrForm},
		{call(7, api.KPop, 0), api.ErrForm},
		{call(7, api.KTake, 0), api.ErrForm},
		{call(7, 11, 1), api.ErrForm},
		{call(7, -1, 1), api.ErrForm},
		{api.Event{Who: 7, Kind: api.KAdd, Thing: 1, Value: 1}, api.ErrForm},
		{api.Event{Who: 7, Kind: api.KAdd, Thing: -1, Value: 1}, api.ErrForm},
		{api.Event{Who: 6, Kind: api.KEnd, Thing: 1, Value: 1}, api.ErrForm},
		{end(0, 0), api.ErrNone},
		{end(7, 1), api.ErrNone},
		{end(6, -1), api.ErrForm},
		{end(6, 2), api.ErrForm},
		{end(4, 6), api.ErrForm},
		{end(8, 0), api.ErrForm},
		{call(4, api.KHas, 2), api.ErrTwice},
		{call(6, api.KAdd, 1000), api.ErrTwice},
	} {
		wantErrors(t, append(sample(), c.event), c.want)
		wantErrors(t, slices.Concat(sample(), list(c.event), many), c.want)
		wantErrors(t, slices.Concat(many, sample(), list(c.event)), c.want)
		wantErrors(t, slices.Concat(sample(), list(c.event, end(-5, -5))), c.want)
	}
	wantErrors(t, slices.Repeat(has(0, 1, 0), 101), api.ErrLarge)
	wantErrors(t, append(slices.Repeat(has(0, 1, 0), 100), call(0, api.KHas, 2)), api.ErrLarge)
	wantErrors(t, slices.Repeat(list(end(9, 9)), 201), api.ErrLarge)
	wantErrors(t, list(end(0, 1)), api.ErrNone)
}

// P10.1: the number is from 1 to MaxValue, whether it is an argument or not.
func TestPartOfNumber(t *testing.T) {
	for _, l := range [][]api.Event{nil, {}, sample(), has(0, 1000, 1), has(0, 1, 0), slices.Repeat(has(0, 1, 0), 100)} {
		for _, n := range extremes {
			if n < 1 || n > 1000 {
				wantPartError(t, l, n, api.ErrArg)
			} else if n != 1 && n != 4 && n != 6 && n != 300 && n != 1000 {
				wantPart(t, l, n)
			}
		}
	}
	wantPart(t, has(0, 1000, 1), 1000, has(0, 1000, 1)...)
	wantPart(t, has(0, 1, 0), 1, has(0, 1, 0)...)
	wantPart(t, has(0, 1000, 1), 1)
	wantPart(t, has(0, 1, 0), 1000)
}

// P10.1: the events of a part are in order, with those of other elements left out.
func TestPart(t *testing.T) {
	l := sample()
	wantPart(t, l, 300, l[0], l[2], l[3], l[6])
	wantPart(t, l, 6, l[1], l[4], l[5], l[7])
	wantPart(t, l, 4, l[8:10]...)
	wantPart(t, l, 1, l[10:13]...)
	wantPart(t, l, 1000, l[13:]...)
	wantPart(t, l, 5)
	// The responses belong to the operations of their processes, in whatever order they come.
	l = list(call(0, api.KAdd, 7), call(1, api.KAdd, 8), call(2, api.KHas, 7), end(2, 1), end(1, 1), call(1, api.KRemove, 7), end(0, 1), end(1, 0))
	wantPart(t, l, 7, l[0], l[2], l[3], l[5], l[6], l[7])
	wantPart(t, l, 8, l[1], l[4])
	// A process whose last operation with this argument has ended.
	l = slices.Concat(add(0, 7, 1), add(0, 8, 1), add(0, 7, 0), add(0, 9, 1))
	wantPart(t, l, 7, l[0], l[1], l[4], l[5])
	wantPart(t, l, 8, l[2:4]...)
	wantPart(t, l, 9, l[6:]...)
	for _, kind := range kinds {
		for _, n := range []int{1, 2, 63, 64, 65, 999, 1000} {
			l = list(call(3, kind, 5), call(4, kind, n), end(3, 0), end(4, 1))
			if n != 5 {
				wantPart(t, l, n, l[1], l[3])
			}
			wantPart(t, l[:3], n, l[1])
			wantPart(t, l[:2], 5, l[0])
			wantPart(t, l[:2], n, l[1])
		}
	}
}

// P10.1: a result is no argument, though it may be the same number.
func TestResultIsNoArgument(t *testing.T) {
	l := slices.Concat(has(0, 7, 1), has(1, 1, 0), add(0, 8, 1), add(2, 1, 1))
	wantPart(t, l, 1, l[2], l[3], l[6], l[7])
	wantPart(t, has(0, 7, 1), 1)
	wantPart(t, list(call(0, api.KAdd, 7), call(1, api.KAdd, 1), end(0, 1)), 1, call(1, api.KAdd, 1))
	wantPart(t, list(call(0, api.KAdd, 7), call(1, api.KAdd, 1), end(0, 1)), 7, call(0, api.KAdd, 7), end(0, 1))
}

// P10.1: a part may have more operations than a search.
func TestLargePart(t *testing.T) {
	ten := slices.Repeat(has(0, 7, 1), 10)
	wantPart(t, ten, 7, ten...)
	all := slices.Repeat(add(5, 1000, 0), 100)
	wantPart(t, all, 1000, all...)
	wantPart(t, all, 999)
	mixed := slices.Repeat(slices.Concat(add(5, 1000, 0), has(6, 1, 1)), 50)
	wantPart(t, mixed, 1000, slices.Repeat(add(5, 1000, 0), 50)...)
	wantPart(t, mixed, 1, slices.Repeat(has(6, 1, 1), 50)...)
}

// P10.2: one operation after the other.
func TestOneAfterTheOther(t *testing.T) {
	for _, n := range []int{1, 2, 50, 51, 64, 1000} {
		wantBad(t, slices.Concat(add(0, n, 1), add(1, n, 1)), n)
		wantBad(t, slices.Concat(add(0, n, 1), add(1, n, 0)))
		wantBad(t, slices.Concat(add(0, n, 1), remove(1, n, 1), add(2, n, 1)))
		wantBad(t, slices.Concat(add(0, n, 1), remove(1, n, 0)), n)
		wantBad(t, slices.Concat(add(0, n, 1), remove(1, n, 1), remove(1, n, 1)), n)
		wantBad(t, slices.Concat(add(0, n, 1), remove(1, n, 1), remove(1, n, 0)))
		wantBad(t, slices.Concat(add(0, n, 1), remove(1, n, 1), add(2, n, 0)), n)
		wantBad(t, slices.Concat(has(2, n, 0), add(0, n, 1), has(2, n, 1), has(1, n, 1), remove(1, n, 1), has(0, n, 0)))
		wantBad(t, slices.Concat(add(0, n, 1), has(2, n, 0)), n)
		wantBad(t, slices.Concat(add(0, n, 1), remove(0, n, 1), has(2, n, 1)), n)
		// It is not in the set at first.
		wantBad(t, add(0, n, 0), n)
		wantBad(t, add(0, n, 1))
		wantBad(t, remove(0, n, 1), n)
		wantBad(t, remove(0, n, 0))
		wantBad(t, has(0, n, 1), n)
		wantBad(t, has(0, n, 0))
	}
	wantBad(t, nil)
	wantBad(t, list())
}

// P10.2: operations that overlap have the order that their results say.
func TestOverlap(t *testing.T) {
	both := func(first, second int, results ...int) []api.Event {
		return list(call(0, first, 7), call(1, second, 7), end(0, results[0]), end(1, results[1]))
	}
	wantBad(t, both(api.KAdd, api.KAdd, 0, 1))
	wantBad(t, both(api.KAdd, api.KAdd, 1, 0))
	wantBad(t, both(api.KAdd, api.KAdd, 1, 1), 7)
	wantBad(t, both(api.KAdd, api.KAdd, 0, 0), 7)
	wantBad(t, both(api.KAdd, api.KHas, 1, 0))
	wantBad(t, both(api.KAdd, api.KHas, 1, 1))
	wantBad(t, both(api.KHas, api.KAdd, 1, 1))
	wantBad(t, both(api.KHas, api.KRemove, 1, 0), 7)
	wantBad(t, both(api.KRemove, api.KAdd, 1, 1))
	wantBad(t, both(api.KRemove, api.KRemove, 0, 0))
	wantBad(t, append(both(api.KRemove, api.KAdd, 1, 1), has(2, 7, 1)...), 7)
	wantBad(t, append(both(api.KRemove, api.KAdd, 0, 1), has(2, 7, 1)...))
	wantBad(t, append(both(api.KRemove, api.KAdd, 0, 1), has(2, 7, 0)...), 7)
	// One of two removes finds the element.
	wantBad(t, append(add(0, 7, 1), both(api.KRemove, api.KRemove, 0, 1)...))
	wantBad(t, append(add(0, 7, 1), both(api.KRemove, api.KRemove, 1, 0)...))
	wantBad(t, append(add(0, 7, 1), both(api.KRemove, api.KRemove, 1, 1)...), 7)
	wantBad(t, append(add(0, 7, 1), both(api.KRemove, api.KRemove, 0, 0)...), 7)
	// The response of one comes before the invocation of the other one, by one event.
	wantBad(t, list(call(0, api.KHas, 7), call(1, api.KAdd, 7), end(0, 1)))
	wantBad(t, list(call(0, api.KHas, 7), end(0, 1), call(1, api.KAdd, 7)), 7)
	wantBad(t, list(call(0, api.KHas, 7), end(0, 1), call(1, api.KAdd, 7), end(1, 1)), 7)
	// What two operations find has an order too.
	wantBad(t, slices.Concat(list(call(0, api.KAdd, 7)), has(1, 7, 0), has(1, 7, 1), list(end(0, 1))))
	wantBad(t, slices.Concat(list(call(0, api.KAdd, 7)), has(1, 7, 1), has(1, 7, 0), list(end(0, 1))), 7)
}

// P10.2: an operation without a response takes effect after its invocation, or never.
func TestWithoutResponse(t *testing.T) {
	for _, c := range []struct {
		kind, result int // the result of a KHas that is possible only when the operation has taken effect
		before       []api.Event
	}{
		{api.KAdd, 1, nil},
		{api.KRemove, 0, add(7, 7, 1)},
	} {
		one, other := has(1, 7, c.result), has(1, 7, 1-c.result)
		pending := list(call(0, c.kind, 7))
		wantBad(t, slices.Concat(c.before, pending))
		wantBad(t, slices.Concat(c.before, pending, one))
		wantBad(t, slices.Concat(c.before, pending, other))
		wantBad(t, slices.Concat(c.before, pending, other, one))
		wantBad(t, slices.Concat(c.before, pending, one, other), 7)
		wantBad(t, slices.Concat(c.before, one, pending), 7)
		wantBad(t, slices.Concat(c.before, other, pending, other, one, one))
		// It takes effect only once, unless there are two of them.
		again := map[int][]api.Event{api.KAdd: remove(2, 7, 1), api.KRemove: add(2, 7, 1)}[c.kind]
		wantBad(t, slices.Concat(c.before, pending, one, again, one), 7)
		wantBad(t, slices.Concat(c.before, pending, list(call(3, c.kind, 7)), one, again, one))
		// One of another element has no effect.
		wantBad(t, slices.Concat(c.before, list(call(0, c.kind, 8)), one), 7)
	}
	// A KHas without a response takes no effect.
	wantBad(t, slices.Concat(list(call(0, api.KHas, 7)), has(1, 7, 1)), 7)
	wantBad(t, list(call(0, api.KHas, 7), call(1, api.KHas, 8)))
}

// P10.2: the elements are in increasing order, not in that of the operations.
func TestOrderOfElements(t *testing.T) {
	wantBad(t, slices.Concat(has(0, 9, 1), has(0, 10, 1), has(0, 1000, 1), has(0, 2, 1), has(0, 300, 0), has(0, 1, 1)), 1, 2, 9, 10, 1000)
	wantBad(t, slices.Concat(has(0, 1, 1), has(0, 3, 0), has(0, 2, 1), has(0, 4, 0)), 1, 2)
	var l []api.Event
	var want []int
	for n := 100; n > 0; n-- {
		l = append(l, has(n%api.MaxWho, n*10, n%2)...)
		if n%2 == 1 {
			want = append([]int{n * 10}, want...)
		}
	}
	wantBad(t, l, want...)
	// All of the elements, though each has several operations; each is named once.
	l, want = nil, nil
	for n := 33; n > 0; n-- {
		l = slices.Concat(l, add(1, 30*n, 0), add(2, 30*n, 1), add(3, 30*n, 1))
		want = append([]int{30 * n}, want...)
	}
	wantBad(t, l, want...)
}

// P10.2: elements do not affect one another, though their operations overlap.
func TestElementsAreSeparate(t *testing.T) {
	wantBad(t, slices.Concat(add(0, 7, 1), has(0, 8, 1)), 8)
	wantBad(t, slices.Concat(add(0, 7, 1), add(0, 8, 0), add(0, 9, 1)), 8)
	wantBad(t, slices.Concat(add(0, 7, 1), remove(0, 8, 1)), 8)
	wantBad(t, slices.Concat(add(0, 7, 1), remove(0, 8, 0), has(1, 7, 1), has(1, 8, 0)))
	wantBad(t, slices.Concat(list(call(0, api.KAdd, 7)), has(1, 8, 1), list(end(0, 1))), 8)
	// Each KHas ends before the KAdd of its own element begins, or overlaps with it, whatever the other element does.
	l := list(call(0, api.KHas, 7), call(1, api.KHas, 8), end(0, 1), call(2, api.KAdd, 7), end(1, 1), call(3, api.KAdd, 8))
	wantBad(t, l, 7, 8)
	l = list(call(0, api.KHas, 7), call(1, api.KHas, 8), call(2, api.KAdd, 7), end(0, 1), call(3, api.KAdd, 8), end(1, 1))
	wantBad(t, l)
	// While both KAdd are pending, 8 may be found before 7 is, but 7 is not lost once it is found.
	wantBad(t, slices.Concat(list(call(0, api.KAdd, 7), call(1, api.KAdd, 8)), has(2, 8, 1), has(2, 7, 0), has(3, 7, 1), list(end(0, 1), end(1, 1))))
	wantBad(t, slices.Concat(list(call(0, api.KAdd, 7), call(1, api.KAdd, 8)), has(2, 8, 1), has(3, 7, 1), has(2, 7, 0), list(end(0, 1), end(1, 1))), 7)
}

// P10.2: a set may have any number of elements, more than those of chapter 4.
func TestManyElements(t *testing.T) {
	for _, n := range []int{51, 52, 60, 75, 99, 100} {
		var l []api.Event
		for element := 1; element <= n; element++ {
			l = append(l, add(element%8, element*10, 1)...)
		}
		for element := 1; element <= 100-n; element++ {
			l = append(l, remove(element%7, element*10, 1)...)
		}
		wantBad(t, l)
		l[2*n-1].Value = 0
		wantBad(t, l, n*10)
		if n < 100 {
			l[199].Value = 0
			wantBad(t, l, (100-n)*10, n*10)
			l[2*n-1].Value = 1
			wantBad(t, l, (100-n)*10)
		}
	}
	// Operations that overlap, as many as there may be at the same time.
	var l []api.Event
	for n := 8; n <= 96; n += 8 {
		for who := range api.MaxWho {
			l = append(l, call(who, api.KAdd, n+who))
		}
		for who := range api.MaxWho {
			l = append(l, end(who, 1))
		}
	}
	wantBad(t, slices.Concat(l, remove(0, 8, 1), add(1, 8, 1), has(7, 103, 1), has(7, 104, 0)))
	wantBad(t, slices.Concat(l, remove(0, 103, 0), add(1, 8, 1), has(7, 60, 0), has(7, 104, 1)), 8, 60, 103, 104)
}

// P10.2: at most nine operations have the same argument.
func TestManyCalls(t *testing.T) {
	for _, n := range []int{1, 2, 999, 1000} {
		nine := slices.Repeat(has(0, n, 0), 9)
		wantBad(t, nine)
		wantBadError(t, slices.Concat(nine, has(0, n, 0)), api.ErrLarge)
		wantBadError(t, append(slices.Clone(nine), call(0, api.KHas, n)), api.ErrLarge)
		wantBad(t, append(slices.Clone(nine), call(0, api.KHas, n%1000+1)))
		wantBadError(t, slices.Concat(nine, has(0, n%1000+1, 1), has(1, n, 0)), api.ErrLarge)
		wantBadError(t, slices.Repeat(has(0, n, 1), 100), api.ErrLarge)
	}
	// All kinds count together, with responses or without.
	mixed := slices.Repeat(slices.Concat(add(0, 7, 1), has(0, 7, 1), remove(0, 7, 1)), 3)
	wantBad(t, mixed)
	for _, kind := range kinds {
		wantBadError(t, append(slices.Clone(mixed), call(1, kind, 7)), api.ErrLarge)
		wantBadError(t, append(list(call(1, kind, 7)), mixed...), api.ErrLarge)
		wantBad(t, append(list(call(1, kind, 7)), mixed[2:]...), map[int][]int{api.KAdd: nil, api.KRemove: {7}, api.KHas: {7}}[kind]...)
	}
	// There may be more operations, if no argument has more than nine of them.
	var all []api.Event
	for n := 11; n > 0; n-- {
		all = append(all, slices.Repeat(has(n%8, 90*n, 0), 9)...)
	}
	wantBad(t, append(all, has(0, 1, 1)...), 1)
	wantBadError(t, append(all, has(0, 90, 0)...), api.ErrLarge)
	wantBadError(t, append(all, has(0, 990, 0)...), api.ErrLarge)
	wantBadError(t, append(all, has(0, 450, 1)...), api.ErrLarge)
	// The limit applies to each element, wherever the others are bad.
	wantBadError(t, slices.Concat(has(0, 5, 1), slices.Repeat(has(0, 6, 0), 10)), api.ErrLarge)
	wantBadError(t, slices.Concat(slices.Repeat(has(0, 6, 0), 10), has(0, 5, 1)), api.ErrLarge)
	wantBadError(t, slices.Concat(has(0, 7, 1), slices.Repeat(has(0, 6, 0), 10)), api.ErrLarge)
}
