package local

import (
	"math"
	"slices"
	"testing"

	"alibi/api"
)

// extremes are values around the ends of all ranges.
var extremes = []int{
	math.MinInt, math.MinInt + 1, -65536, -64, -16, -2, -1, 0, 1, 2, 3, 4, 5, 6, 7, 8, 9, 10, 11, 12, 13,
	15, 16, 17, 31, 32, 63, 64, 65, 127, 128, 255, 256, 257, 999, 1000, 1001, 65535, 65536, 1 << 32, math.MaxInt - 1, math.MaxInt,
}

// call returns the event by which a process calls an operation.
func call(who, thing, kind, value int) api.Event {
	return api.Event{Who: who, Thing: thing, Kind: kind, Value: value}
}

// end returns the event by which a process gets a response.
func end(who, thing, value int) api.Event {
	return api.Event{Who: who, Thing: thing, Kind: api.KEnd, Value: value}
}

// whole returns the two events of an operation that overlaps with no other one.
func whole(who, thing, kind, value, result int) []api.Event {
	return []api.Event{call(who, thing, kind, value), end(who, thing, result)}
}

// step returns a step of a list.
func step(call, result int) api.Step {
	return api.Step{Call: call, Res: result}
}

// steps returns steps with result 0.
func steps(calls ...int) []api.Step {
	var list []api.Step
	for _, i := range calls {
		list = append(list, step(i, 0))
	}
	return list
}

// tickets returns the types of ticket counters.
func tickets(n int) []int {
	return slices.Repeat([]int{api.TTicket}, n)
}

// takeTickets returns the events of operations that take a ticket each, one after the other, from these objects.
func takeTickets(things ...int) []api.Event {
	var l []api.Event
	var counts [api.MaxThings]int
	for i, thing := range things {
		l = append(l, whole(i%api.MaxWho, thing, api.KTake, 0, counts[thing])...)
		counts[thing]++
	}
	return l
}

// sample returns a history of four types, the smallest linearizations of its
// parts, and these combined.
func sample() ([]int, []api.Event, [][]api.Step, []api.Step) {
	types := []int{api.TQueue, api.TReg, api.TTicket, api.TSet}
	l := []api.Event{
		call(0, 0, api.KDeq, 0),
		call(1, 1, api.KRead, 0),
		call(2, 0, api.KEnq, 5),
		call(3, 1, api.KWrite, 8),
		end(0, 0, 5),
		call(4, 2, api.KTake, 0),
		call(5, 2, api.KTake, 0),
		end(5, 2, 0),
		end(1, 1, 8),
		call(0, 3, api.KAdd, 6),
		call(1, 2, api.KTake, 0),
		end(1, 2, 1),
	}
	orders := [][]api.Step{
		{step(2, 0), step(0, 5)},
		{step(3, 0), step(1, 8)},
		{step(5, 0), step(7, 1)},
		nil,
	}
	joined := []api.Step{step(2, 0), step(0, 5), step(3, 0), step(1, 8), step(5, 0), step(7, 1)}
	return types, l, orders, joined
}

// overlapping returns a history of n operations without responses, which take tickets from some objects in turn.
func overlapping(n, things int) []api.Event {
	var l []api.Event
	for i := range n {
		l = append(l, call(i, i%things, api.KTake, 0))
	}
	return l
}

func equalLists(a, b [][]api.Step) bool {
	return slices.EqualFunc(a, b, slices.Equal[[]api.Step])
}

// cloneLists returns copies of the lists.
func cloneLists(w [][]api.Step) [][]api.Step {
	var lists [][]api.Step
	for _, list := range w {
		lists = append(lists, slices.Clone(list))
	}
	return lists
}

func wantParts(t *testing.T, types []int, l []api.Event, want ...bool) {
	t.Helper()
	if parts, e := Parts(types, l); !slices.Equal(parts, want) || e != api.OK {
		t.Errorf("Parts(%v, %v) = %v, %d; want %v, 0", types, l, parts, e, want)
	}
}

// wantOrders checks that Orders returns the lists, and that Parts knows of them.
func wantOrders(t *testing.T, types []int, l []api.Event, want ...[]api.Step) {
	t.Helper()
	if orders, e := Orders(types, l); !equalLists(orders, want) || e != api.OK {
		t.Errorf("Orders(%v, %v) = %v, %d; want %v, 0", types, l, orders, e, want)
	}
	wantParts(t, types, l, slices.Repeat([]bool{true}, len(types))...)
}

// wantNone checks that Parts returns the answers, and Orders therefore an error and no more.
func wantNone(t *testing.T, types []int, l []api.Event, want ...bool) {
	t.Helper()
	wantParts(t, types, l, want...)
	if orders, e := Orders(types, l); orders != nil || e != api.ErrNone {
		t.Errorf("Orders(%v, %v) = %v, %d; want nil, %d", types, l, orders, e, api.ErrNone)
	}
}

func wantJoin(t *testing.T, types []int, l []api.Event, w [][]api.Step, want ...api.Step) {
	t.Helper()
	if joined, is, e := Join(types, l, w); !slices.Equal(joined, want) || !is || e != api.OK {
		t.Errorf("Join(%v, %v, %v) = %v, %v, %d; want %v, true, 0", types, l, w, joined, is, e, want)
	}
}

// wantApart checks that Join can't combine the lists.
func wantApart(t *testing.T, types []int, l []api.Event, w [][]api.Step) {
	t.Helper()
	if joined, is, e := Join(types, l, w); joined != nil || is || e != api.OK {
		t.Errorf("Join(%v, %v, %v) = %v, %v, %d; want nil, false, 0", types, l, w, joined, is, e)
	}
}

// wantJoinError checks that Join returns the error and no more.
func wantJoinError(t *testing.T, types []int, l []api.Event, w [][]api.Step, want api.Errno) {
	t.Helper()
	if joined, is, e := Join(types, l, w); joined != nil || is || e != want {
		t.Errorf("Join(%v, %v, %v) = %v, %v, %d; want nil, false, %d", types, l, w, joined, is, e, want)
	}
}

// wantError checks that all functions return the error and no more, whatever the lists are.
func wantError(t *testing.T, types []int, l []api.Event, want api.Errno) {
	t.Helper()
	if parts, e := Parts(types, l); parts != nil || e != want {
		t.Errorf("Parts(%v, %v) = %v, %d; want nil, %d", types, l, parts, e, want)
	}
	if orders, e := Orders(types, l); orders != nil || e != want {
		t.Errorf("Orders(%v, %v) = %v, %d; want nil, %d", types, l, orders, e, want)
	}
	for _, w := range [][][]api.Step{nil, make([][]api.Step, len(types)), {steps(0, 0)}, {steps(-1)}, {steps(99)}, make([][]api.Step, 9)} {
		wantJoinError(t, types, l, w, want)
	}
}

// P1: no function panics or runs forever, whatever an argument is.
func TestAnyArgument(t *testing.T) {
	types, l, orders, _ := sample()
	for _, n := range extremes {
		for _, m := range extremes {
			for _, h := range []struct {
				types []int
				l     []api.Event
			}{
				{[]int{n, m}, l},
				{types, []api.Event{call(n, m, api.KTake, 0), end(n, m, 0)}},
				{types, []api.Event{call(0, 1, n, m), end(0, 1, m)}},
			} {
				Parts(h.types, h.l)
				Orders(h.types, h.l)
				Join(h.types, h.l, orders)
			}
			Join(types, l, [][]api.Step{nil, nil, {step(n, m), step(m, n)}, nil})
			Join(types, l, [][]api.Step{{step(2, n)}, {step(3, m), step(n, m)}, nil, nil})
		}
	}
	for _, w := range [][][]api.Step{
		nil,
		make([][]api.Step, 100_000),
		{steps(make([]int, 100_000)...), nil, nil, nil},
		slices.Repeat(orders, 100_000),
	} {
		Join(types, l, w)
		Join(nil, nil, w)
		Join(make([]int, 100_000), nil, w)
	}
	Parts(nil, nil)
	Orders(nil, nil)
	Parts(make([]int, 100_000), make([]api.Event, 100_000))
	Orders(types, slices.Repeat(l, 100_000))
}

// P1, P6.1: most operations overlap, and some part has no linearization.
func TestHard(t *testing.T) {
	var l []api.Event
	for who := range 7 {
		l = append(l, call(who, 0, api.KEnq, 10+who))
	}
	l = append(l, whole(7, 0, api.KDeq, 0, 10)...)
	l = append(l, whole(7, 0, api.KDeq, 0, 10)...)
	l = append(l, call(7, 1, api.KPush, 1))
	wantNone(t, []int{api.TQueue, api.TStack}, l, false, true)
}

// P2: the arguments, with their spare capacity, are as they were.
func TestArgumentsAreKept(t *testing.T) {
	types, l, orders, _ := sample()
	manyTypes := append(slices.Clone(types), -11, -12)
	manyEvents := append(slices.Clone(l), end(-13, -14, -15), end(-16, -17, -18))
	for _, w := range [][][]api.Step{orders, {steps(0, 2), steps(1), nil, steps(6)}} {
		var manyLists, short, want [][]api.Step
		for _, list := range w {
			many := append(slices.Clone(list), step(-19, -20), step(-21, -22))
			manyLists = append(manyLists, many)
			short = append(short, many[:len(list)])
		}
		want = cloneLists(manyLists)
		spare := append(slices.Clone(short), steps(-23))
		Parts(manyTypes[:len(types)], manyEvents[:len(l)])
		Orders(manyTypes[:len(types)], manyEvents[:len(l)])
		Join(manyTypes[:len(types)], manyEvents[:len(l)], spare[:len(short)])
		if !slices.Equal(manyTypes, append(slices.Clone(types), -11, -12)) {
			t.Error(manyTypes)
		}
		if !slices.Equal(manyEvents, append(slices.Clone(l), end(-13, -14, -15), end(-16, -17, -18))) {
			t.Error(manyEvents)
		}
		if !equalLists(manyLists, want) {
			t.Error(manyLists)
		}
		if !equalLists(spare, append(cloneLists(w), steps(-23))) {
			t.Error(spare)
		}
	}
}

// P2: overwriting one list of a result, with its spare capacity, changes nothing else.
func TestResultsAreNew(t *testing.T) {
	types, l, orders, joined := sample()
	overwrite := func(list []api.Step) {
		list = list[:cap(list)]
		for i := range list {
			list[i] = step(-99, -99)
		}
	}
	other, _ := Orders(types, l)
	for i := range orders {
		lists, _ := Orders(types, l)
		overwrite(lists[i])
		for j := range orders {
			if j != i && !slices.Equal(lists[j], orders[j]) {
				t.Error(i, j, lists[j])
			}
		}
	}
	if !equalLists(other, orders) {
		t.Error(other)
	}
	for _, w := range [][][]api.Step{other, {orders[0], nil, nil, nil}} {
		want := cloneLists(w)
		list, _, _ := Join(types, l, w)
		overwrite(list)
		if !equalLists(w, want) {
			t.Error(w)
		}
	}
	parts, _ := Parts(types, l)
	parts = parts[:cap(parts)]
	clear(parts)
	wantOrders(t, types, l, orders...)
	wantJoin(t, types, l, orders, joined...)
}

// P2: the results of a call do not depend on the calls before it.
func TestNoStateIsKept(t *testing.T) {
	types, l, orders, joined := sample()
	two := tickets(2)
	good, bad := takeTickets(0, 1, 0), takeTickets(0, 1, 0)
	bad[5].Value = 0
	for range 3 {
		wantOrders(t, types, l, orders...)
		wantNone(t, two, bad, false, true)
		wantOrders(t, two, good, []api.Step{step(0, 0), step(2, 1)}, steps(1))
		wantJoin(t, types, l, orders, joined...)
		wantApart(t, two, good, [][]api.Step{steps(2, 0), nil})
		wantJoin(t, two, good, [][]api.Step{steps(0, 2), nil}, steps(0, 2)...)
		wantJoinError(t, two, good, [][]api.Step{steps(0, 0), nil}, api.ErrForm)
		wantError(t, two, l, api.ErrForm)
		wantError(t, two, takeTickets(make([]int, 10)...), api.ErrLarge)
	}
}

// P6: the error of history.Calls comes first, each in its place.
func TestErrorsOfCalls(t *testing.T) {
	types, l, _, _ := sample()
	for _, bad := range [][]int{nil, {0}, {6}, {1, 2, 3, 4, 5}, {1, -1}} {
		wantError(t, bad, nil, api.ErrArg)
		wantError(t, bad, l, api.ErrArg)
		wantError(t, bad, takeTickets(make([]int, 101)...), api.ErrArg)
	}
	wantError(t, tickets(1), slices.Repeat([]api.Event{end(9, 9, 9)}, 201), api.ErrLarge)
	for _, c := range []struct {
		event api.Event
		want  api.Errno
	}{
		{call(8, 1, api.KRead, 0), api.ErrForm},
		{call(-1, 1, api.KRead, 0), api.ErrForm},
		{call(5, 4, api.KRead, 0), api.ErrForm},
		{end(5, 0, 0), api.ErrNone},
		{end(2, 1, 0), api.ErrForm},
		{end(4, 2, 1001), api.ErrForm},
		{call(5, 1, api.KTake, 0), api.ErrForm},
		{call(5, 1, api.KWrite, 0), api.ErrForm},
		{call(2, 2, api.KTake, 0), api.ErrTwice},
	} {
		wantError(t, types, append(slices.Clone(l), c.event), c.want)
		// There are more than 12 operations before the invalid event, or after it.
		many := slices.Repeat(whole(5, 3, api.KHas, 1, 0), 10)
		wantError(t, types, slices.Concat(l, many, []api.Event{c.event}), c.want)
		wantError(t, types, slices.Concat(l, []api.Event{c.event}, many), c.want)
	}
}

// P6: there may be 12 operations, with or without responses, and 9 of one object.
func TestLimits(t *testing.T) {
	for things := 2; things <= api.MaxThings; things++ {
		types := tickets(things)
		lists := make([][]api.Step, things)
		var joined []api.Step
		var turns []int
		for i := range 12 {
			turns = append(turns, i%things)
			lists[i%things] = append(lists[i%things], step(i, i/things))
			joined = append(joined, step(i, i/things))
		}
		l := takeTickets(turns...)
		wantOrders(t, types, l, lists...)
		wantJoin(t, types, l, lists, joined...)
		wantJoin(t, types, l[:23], lists, joined...)
		for thing := range things {
			wantError(t, types, append(slices.Clone(l), call(7, thing, api.KTake, 0)), api.ErrLarge)
		}
	}
	for thing := range api.MaxThings {
		types := tickets(api.MaxThings)
		turns := slices.Repeat([]int{thing}, 9)
		l := takeTickets(turns...)
		lists := make([][]api.Step, api.MaxThings)
		for i := range 9 {
			lists[thing] = append(lists[thing], step(i, i))
		}
		wantOrders(t, types, l, lists...)
		wantJoin(t, types, l, lists, lists[thing]...)
		wantError(t, types, append(slices.Clone(l), call(0, thing, api.KTake, 0)), api.ErrLarge)
		wantError(t, types, slices.Concat(takeTickets(1-min(thing, 1)), l, takeTickets(thing)), api.ErrLarge)
	}
	wantError(t, tickets(1), takeTickets(make([]int, 13)...), api.ErrLarge)
	wantError(t, tickets(1), takeTickets(make([]int, 100)...), api.ErrLarge)
}

// P6: a history that is too large is that before some part of it is not linearizable, and before a list is wrong.
func TestLargeComesFirst(t *testing.T) {
	types := tickets(2)
	l := takeTickets(1, 1, 0, 0, 0, 0, 0, 0, 0, 0, 0)
	l[1].Value = 7
	wantNone(t, types, l, true, false)
	l = append(l, call(7, 0, api.KTake, 0))
	wantError(t, types, l, api.ErrLarge)
	l = takeTickets(0, 0, 1, 1, 1, 1, 1, 1, 1, 1, 1, 1)
	l[1].Value = 7
	wantError(t, types, l, api.ErrLarge)
}

// P6.1, P6.2: without operations, the empty list is the only one.
func TestNoOperations(t *testing.T) {
	for typ := api.TReg; typ <= api.TTicket; typ++ {
		for n := 1; n <= api.MaxThings; n++ {
			types := slices.Repeat([]int{typ}, n)
			lists := make([][]api.Step, n)
			for _, l := range [][]api.Event{nil, {}} {
				wantOrders(t, types, l, lists...)
				wantJoin(t, types, l, lists)
				wantJoin(t, types, l, slices.Repeat([][]api.Step{{}}, n))
				wantJoinError(t, types, l, lists[1:], api.ErrForm)
				wantJoinError(t, types, l, append(lists, nil), api.ErrForm)
				for _, i := range []int{-1, 0, 1} {
					lists[n-1] = steps(i)
					wantJoinError(t, types, l, lists, api.ErrForm)
				}
				lists[n-1] = nil
			}
		}
	}
}

// P6.1: each object has an answer of its own, in its place, whichever other parts are not linearizable.
func TestParts(t *testing.T) {
	types := []int{api.TReg, api.TQueue, api.TTicket, api.TSet}
	for wrong := range 16 {
		l := slices.Concat(whole(0, 3, api.KAdd, 1, 1), whole(1, 2, api.KTake, 0, 0), whole(2, 1, api.KEnq, 1, 0), whole(3, 0, api.KWrite, 1, 0),
			whole(4, 0, api.KRead, 0, 1), whole(5, 1, api.KDeq, 0, 1), whole(6, 2, api.KTake, 0, 1), whole(7, 3, api.KHas, 1, 1))
		want := make([]bool, 4)
		for thing := range types {
			want[thing] = wrong>>thing&1 == 0
			if !want[thing] && thing == 1 {
				l[11].Value = -1
			} else if !want[thing] {
				l[2*(4+thing)+1].Value = 0
			}
		}
		if wrong == 0 {
			wantOrders(t, types, l, []api.Step{step(3, 0), step(4, 1)}, []api.Step{step(2, 0), step(5, 1)},
				[]api.Step{step(1, 0), step(6, 1)}, []api.Step{step(0, 1), step(7, 1)})
		} else {
			wantNone(t, types, l, want...)
		}
	}
}

// P6.1: operations of the same type and with the same values belong to their own objects only.
func TestOwnState(t *testing.T) {
	for thing := range 2 {
		types := []int{api.TQueue, api.TQueue}
		l := append(whole(0, thing, api.KEnq, 1, 0), whole(1, 0, api.KDeq, 0, 1)...)
		if thing == 0 {
			wantOrders(t, types, l, []api.Step{step(0, 0), step(1, 1)}, nil)
		} else {
			wantNone(t, types, l, false, true)
		}
	}
}

// P6.1: operations of a part are numbered by their indices in the whole history.
func TestNumbers(t *testing.T) {
	types := []int{api.TReg, api.TReg, api.TReg}
	for _, turns := range [][]int{{0, 1, 2, 0, 1, 2}, {2, 1, 0, 0, 1, 2}, {1, 1, 1, 2, 2, 0}, {0, 2, 2, 2, 2, 2}} {
		var l []api.Event
		want := make([][]api.Step, 3)
		for i, thing := range turns {
			l = append(l, whole(i, thing, api.KWrite, i+1, 0)...)
			want[thing] = append(want[thing], step(i, 0))
		}
		wantOrders(t, types, l, want...)
	}
}

// P6.1: an operation without a response is in the list of its part if it is needed, or if the list is smaller with it.
func TestPending(t *testing.T) {
	types := []int{api.TQueue, api.TReg}
	l := []api.Event{
		call(0, 1, api.KWrite, 3),
		call(1, 0, api.KEnq, 4),
		call(2, 1, api.KWrite, 6),
		call(3, 0, api.KEnq, 5),
		call(4, 0, api.KDeq, 0),
		call(5, 1, api.KRead, 0),
	}
	wantOrders(t, types, l, nil, nil)
	l = append(l, end(4, 0, 5))
	wantOrders(t, types, l, []api.Step{step(3, 0), step(1, 0), step(4, 5)}, nil)
	l = append(l, end(5, 1, 0))
	wantOrders(t, types, l, []api.Step{step(3, 0), step(1, 0), step(4, 5)}, []api.Step{step(5, 0)})
	l[7].Value = 3
	wantOrders(t, types, l, []api.Step{step(3, 0), step(1, 0), step(4, 5)}, []api.Step{step(0, 0), step(5, 3)})
	l[7].Value = 6
	wantOrders(t, types, l, []api.Step{step(3, 0), step(1, 0), step(4, 5)}, []api.Step{step(0, 0), step(2, 0), step(5, 6)})
	l[7].Value = 4
	wantNone(t, types, l, true, false)
}

// P6.1, P6.2: a history of four types.
func TestSample(t *testing.T) {
	types, l, orders, joined := sample()
	wantOrders(t, types, l, orders...)
	wantJoin(t, types, l, orders, joined...)
	for thing := range orders {
		one := make([][]api.Step, 4)
		one[thing] = orders[thing]
		wantJoin(t, types, l, one, orders[thing]...)
	}
}

// P6.1, P6.2: real time orders operations of different processes, and so the elements of two queues.
func TestTwoQueues(t *testing.T) {
	types := []int{api.TQueue, api.TQueue}
	// Each process enqueues into one queue and then into the other one.
	l := slices.Concat(
		[]api.Event{call(0, 0, api.KEnq, 1), call(1, 1, api.KEnq, 2), end(0, 0, 0), end(1, 1, 0)},
		[]api.Event{call(0, 1, api.KEnq, 3), call(1, 0, api.KEnq, 4), end(1, 0, 0), end(0, 1, 0)},
		whole(2, 0, api.KDeq, 0, 1), whole(2, 1, api.KDeq, 0, 2))
	wantOrders(t, types, l, []api.Step{step(0, 0), step(3, 0), step(4, 1)}, []api.Step{step(1, 0), step(2, 0), step(5, 2)})
	// Each queue would be right without real time, but neither is right with it.
	l[9].Value, l[11].Value = 4, 3
	wantNone(t, types, l, false, false)
	wantApart(t, types, l, [][]api.Step{{step(3, 0), step(0, 0), step(4, 4)}, {step(2, 0), step(1, 0), step(5, 3)}})
}

// P6.2: there is one list for each object, even if it has no operations.
func TestNumberOfLists(t *testing.T) {
	types, l, orders, joined := sample()
	wantJoin(t, types, l, orders, joined...)
	for n := range 10 {
		if n != 4 {
			wantJoinError(t, types, l, make([][]api.Step, n), api.ErrForm)
			wantJoinError(t, types, l, append(orders, make([][]api.Step, 6)...)[:n], api.ErrForm)
		}
	}
}

// P6.2: a step names an operation that exists, of the object of its list.
func TestWhatStepsName(t *testing.T) {
	types, l, orders, _ := sample()
	owners := []int{0, 1, 0, 1, 2, 2, 3, 2}
	for thing := range types {
		for at := range len(orders[thing]) + 1 {
			for _, n := range extremes {
				w := cloneLists(orders)
				w[thing] = slices.Insert(w[thing], at, step(n, 0))
				exists := 0 <= n && n < len(owners) && owners[n] == thing
				if !exists || slices.ContainsFunc(orders[thing], func(s api.Step) bool { return s.Call == n }) {
					wantJoinError(t, types, l, w, api.ErrForm)
				} else if _, _, e := Join(types, l, w); e != api.OK {
					t.Error(w, e)
				}
			}
		}
	}
}

// P6.2: no two steps of a list name the same operation, whatever their results are and what is between them.
func TestTwice(t *testing.T) {
	types := tickets(2)
	l := overlapping(6, 2)
	wantJoin(t, types, l, [][]api.Step{steps(2, 4, 0), nil}, steps(2, 4, 0)...)
	for _, w := range [][]api.Step{steps(0, 0), steps(0, 2, 0), steps(4, 0, 2, 2), {step(2, 1), step(2, 2)}} {
		wantJoinError(t, types, l, [][]api.Step{w, nil}, api.ErrForm)
		for i := range w {
			w[i].Call++
		}
		wantJoinError(t, types, l, [][]api.Step{nil, w}, api.ErrForm)
		wantJoinError(t, types, l, [][]api.Step{steps(0, 2, 4), w}, api.ErrForm)
	}
}

// P6.2: an error in a list comes before orders that can't be combined.
func TestErrorsComeFirst(t *testing.T) {
	types := tickets(2)
	l := takeTickets(0, 0, 1)
	wantApart(t, types, l, [][]api.Step{steps(1, 0), nil})
	wantJoinError(t, types, l, [][]api.Step{steps(1, 0)}, api.ErrForm)
	wantJoinError(t, types, l, [][]api.Step{steps(1, 0), nil, nil}, api.ErrForm)
	for _, i := range []int{-1, 0, 3} {
		wantJoinError(t, types, l, [][]api.Step{steps(1, 0), steps(2, i)}, api.ErrForm)
	}
}

// P6.2: a list need not contain all operations of its object, and may contain those without responses.
func TestSomeOperations(t *testing.T) {
	types := tickets(2)
	l := slices.Concat(takeTickets(0, 1, 0, 1), []api.Event{call(0, 0, api.KTake, 0), call(1, 1, api.KTake, 0)})
	wantJoin(t, types, l, [][]api.Step{nil, nil})
	wantJoin(t, types, l, [][]api.Step{steps(4), nil}, steps(4)...)
	wantJoin(t, types, l, [][]api.Step{steps(2), steps(1, 5)}, steps(1, 2, 5)...)
	wantJoin(t, types, l, [][]api.Step{steps(0, 4), steps(5)}, steps(0, 4, 5)...)
	wantJoin(t, types, l, [][]api.Step{steps(0, 2, 4), steps(1, 3, 5)}, steps(0, 1, 2, 3, 4, 5)...)
	wantApart(t, types, l, [][]api.Step{steps(4, 0), nil})
	wantApart(t, types, l, [][]api.Step{steps(0, 2, 4), steps(5, 3)})
}

// P6.2: the lists need not be linearizations, and the steps keep their results.
func TestResultsAreKept(t *testing.T) {
	types := []int{api.TReg, api.TQueue}
	l := []api.Event{call(0, 0, api.KRead, 0), call(1, 1, api.KDeq, 0), call(2, 0, api.KWrite, 5), end(2, 0, 0), end(0, 0, 5), end(1, 1, 7)}
	wantNone(t, types, l, true, false)
	for _, n := range extremes {
		for _, m := range extremes {
			wantJoin(t, types, l, [][]api.Step{{step(2, n), step(0, m)}, {step(1, n)}}, step(1, n), step(2, n), step(0, m))
		}
	}
}

// P6.2: no operation comes after one that it precedes, of the same object or of another one.
func TestRealTime(t *testing.T) {
	types := tickets(2)
	for _, turns := range [][]int{{0, 0}, {0, 1}, {1, 0}, {1, 1}} {
		l := takeTickets(turns...)
		lists := make([][]api.Step, 2)
		lists[turns[1]] = steps(1)
		lists[turns[0]] = append(lists[turns[0]], step(0, 0))
		if turns[0] == turns[1] {
			wantApart(t, types, l, lists)
			// Without a response, the first operation precedes none.
			wantJoin(t, types, []api.Event{l[0], l[2], l[3]}, lists, steps(1, 0)...)
			wantJoin(t, types, []api.Event{l[0], l[2], l[1], l[3]}, lists, steps(1, 0)...)
			wantApart(t, types, l[:3], lists)
		} else {
			wantJoin(t, types, l, lists, steps(0, 1)...)
		}
	}
	// The list makes operation 3 precede 0, which precedes 4 in real time, which precedes 1 by the other list.
	l := []api.Event{
		call(0, 0, api.KTake, 0), call(1, 1, api.KTake, 0), call(2, 1, api.KTake, 0), call(3, 0, api.KTake, 0),
		end(0, 0, 0), call(0, 1, api.KTake, 0),
	}
	wantJoin(t, types, l, [][]api.Step{steps(3, 0), steps(4, 1)}, steps(3, 0, 4, 1)...)
	wantJoin(t, types, l, [][]api.Step{steps(3, 0), steps(2, 4, 1)}, steps(2, 3, 0, 4, 1)...)
	wantJoin(t, types, l, [][]api.Step{steps(3, 0), steps(1, 2, 4)}, steps(1, 2, 3, 0, 4)...)
}

// P6.2: every step comes before all later ones of its list, and otherwise the smallest operation is the next one.
func TestSmallest(t *testing.T) {
	types := tickets(3)
	l := overlapping(8, 3)
	for _, c := range []struct{ first, second, third, want []int }{
		{[]int{0, 3, 6}, []int{1, 4, 7}, []int{2, 5}, []int{0, 1, 2, 3, 4, 5, 6, 7}},
		{[]int{6, 3, 0}, []int{1, 4, 7}, []int{2, 5}, []int{1, 2, 4, 5, 6, 3, 0, 7}},
		{[]int{6, 3, 0}, []int{7, 4, 1}, []int{5, 2}, []int{5, 2, 6, 3, 0, 7, 4, 1}},
		{[]int{6, 0}, []int{7, 1}, nil, []int{6, 0, 7, 1}},
		{[]int{3, 6, 0}, []int{4, 1, 7}, []int{5, 2}, []int{3, 4, 1, 5, 2, 6, 0, 7}},
		{nil, []int{7, 4, 1}, []int{2}, []int{2, 7, 4, 1}},
		{[]int{6}, []int{4}, []int{2}, []int{2, 4, 6}},
	} {
		wantJoin(t, types, l, [][]api.Step{steps(c.first...), steps(c.second...), steps(c.third...)}, steps(c.want...)...)
	}
}
