package object

import (
	"math"
	"slices"
	"testing"

	"alibi/api"
)

// extremes are values around the ends of all ranges.
var extremes = []int{
	math.MinInt, math.MinInt + 1, -1000, -2, -1, 0, 1, 2, 3, 4, 5, 6, 7, 8, 9, 10, 11, 12,
	49, 50, 51, 999, 1000, 1001, math.MaxInt - 1, math.MaxInt,
}

// kinds returns the operations of a type.
func kinds(typ int) []int {
	return [][]int{
		api.TReg:    {api.KWrite, api.KRead},
		api.TQueue:  {api.KEnq, api.KDeq},
		api.TStack:  {api.KPush, api.KPop},
		api.TSet:    {api.KAdd, api.KRemove, api.KHas},
		api.TTicket: {api.KTake},
	}[typ]
}

// isPlain reports whether the only argument of the operation is 0.
func isPlain(kind int) bool {
	return slices.Contains([]int{api.KRead, api.KDeq, api.KPop, api.KTake}, kind)
}

// oneState returns a valid state of a type, in which every operation is possible.
func oneState(typ int) []int {
	return [][]int{api.TReg: {7}, api.TQueue: {8, 3, 8}, api.TStack: {9, 2, 9}, api.TSet: {1, 5, 1000}, api.TTicket: {6}}[typ]
}

// upTo returns the numbers from 1 to n.
func upTo(n int) []int {
	l := make([]int, n)
	for i := range l {
		l[i] = i + 1
	}
	return l
}

func wantCheck(t *testing.T, typ int, s []int, want api.Errno) {
	t.Helper()
	if e := Check(typ, s); e != want {
		t.Errorf("Check(%d, %v) = %d; want %d", typ, s, e, want)
	}
}

func wantStep(t *testing.T, typ int, s []int, kind, arg int, want []int, wantResult int) {
	t.Helper()
	n, result, e := Step(typ, s, kind, arg)
	if !slices.Equal(n, want) || result != wantResult || e != api.OK {
		t.Errorf("Step(%d, %v, %d, %d) = %v, %d, %d; want %v, %d, 0", typ, s, kind, arg, n, result, e, want, wantResult)
	}
}

// wantStepError checks that Step returns the error and no more.
func wantStepError(t *testing.T, typ int, s []int, kind, arg int, want api.Errno) {
	t.Helper()
	if n, result, e := Step(typ, s, kind, arg); n != nil || result != 0 || e != want {
		t.Errorf("Step(%d, %v, %d, %d) = %v, %d, %d; want nil, 0, %d", typ, s, kind, arg, n, result, e, want)
	}
}

func wantPlay(t *testing.T, typ int, l []api.Do, want int, wantError api.Errno) {
	t.Helper()
	if n, e := Play(typ, l); n != want || e != wantError {
		t.Errorf("Play(%d, %v) = %d, %d; want %d, %d", typ, l, n, e, want, wantError)
	}
}

// P1: no function panics or runs forever, whatever an argument is.
func TestAnyArgument(t *testing.T) {
	long := make([]int, 100_000)
	for _, n := range extremes {
		Start(n)
		Check(n, nil)
		Check(n, long)
		Play(n, nil)
		Play(n, make([]api.Do, 1000))
		for _, m := range extremes {
			Step(n, nil, m, m)
			Step(n, long, m, m)
			for typ := api.TReg; typ <= api.TTicket; typ++ {
				Check(typ, []int{n, m})
				Step(typ, []int{n}, m, n)
				Step(typ, oneState(typ), n, m)
				Play(typ, []api.Do{{Kind: n, Arg: m, Res: n}, {Kind: m, Arg: n, Res: m}})
			}
		}
	}
}

// P2: the arguments, with their spare capacity, are as they were.
func TestArgumentsAreKept(t *testing.T) {
	for typ := api.TReg; typ <= api.TTicket; typ++ {
		for _, kind := range kinds(typ) {
			for _, arg := range []int{0, 1, 2, 1000} {
				backing := append(slices.Clone(oneState(typ)), -11, -12, -13)
				s := backing[:len(oneState(typ))]
				l := []api.Do{{Kind: kind, Arg: arg, Res: -1}, {Kind: kind, Arg: arg}, {Kind: -14}}
				Check(typ, s)
				Step(typ, s, kind, arg)
				Play(typ, l[:2])
				if !slices.Equal(backing, append(slices.Clone(oneState(typ)), -11, -12, -13)) {
					t.Error(typ, kind, arg, backing)
				}
				if !slices.Equal(l, []api.Do{{Kind: kind, Arg: arg, Res: -1}, {Kind: kind, Arg: arg}, {Kind: -14}}) {
					t.Error(typ, kind, arg, l)
				}
			}
		}
	}
}

// spoil overwrites a list with its spare capacity.
func spoil(l []int) {
	l = l[:cap(l)]
	for i := range l {
		l[i] = -99
	}
}

// P2: overwriting one result, with its spare capacity, changes no argument and no other result.
func TestResultsAreNew(t *testing.T) {
	for typ := api.TReg; typ <= api.TTicket; typ++ {
		start, _ := Start(typ)
		other, _ := Start(typ)
		spoil(start)
		wantCheck(t, typ, other, api.OK)
		for _, kind := range kinds(typ) {
			for _, arg := range []int{0, 1, 2, 1000} {
				backing := append(slices.Clone(oneState(typ)), -11, -12, -13)
				s := backing[:len(oneState(typ))]
				first, _, _ := Step(typ, s, kind, arg)
				second, _, _ := Step(typ, s, kind, arg)
				want := slices.Clone(second)
				spoil(first)
				if !slices.Equal(second, want) || !slices.Equal(backing, append(slices.Clone(oneState(typ)), -11, -12, -13)) {
					t.Error(typ, kind, arg, second, backing)
				}
			}
		}
	}
	// The last element leaves a list that is as empty as it was.
	empty := []int{-98, -97}
	result, _, _ := Step(api.TQueue, empty[:0], api.KDeq, 0)
	spoil(result)
	if !slices.Equal(empty, []int{-98, -97}) {
		t.Error(empty)
	}
}

// P2: the results of a call do not depend on the calls before it.
func TestNoStateIsKept(t *testing.T) {
	for range 3 {
		wantStep(t, api.TTicket, []int{0}, api.KTake, 0, []int{1}, 0)
		wantStep(t, api.TQueue, nil, api.KEnq, 4, []int{4}, 0)
		wantStep(t, api.TQueue, nil, api.KDeq, 0, nil, -1)
		wantStepError(t, api.TTicket, []int{1000}, api.KTake, 0, api.ErrLarge)
		wantPlay(t, api.TTicket, []api.Do{{Kind: api.KTake}, {Kind: api.KTake, Res: 1}}, 2, api.OK)
		wantPlay(t, api.TReg, []api.Do{{Kind: api.KRead}, {Kind: api.KWrite, Arg: 3}}, 2, api.OK)
	}
}

// P4.1: registers and ticket counters begin with 0, all others empty.
func TestStart(t *testing.T) {
	for typ, want := range [][]int{api.TReg: {0}, api.TQueue: {}, api.TStack: {}, api.TSet: {}, api.TTicket: {0}} {
		if typ == 0 {
			continue
		}
		s, e := Start(typ)
		if !slices.Equal(s, want) || e != api.OK {
			t.Errorf("Start(%d) = %v, %d; want %v, 0", typ, s, e, want)
		}
		wantCheck(t, typ, s, api.OK)
	}
}

// P4.1: there are the types 1 to 5, and every function checks this first.
func TestTypes(t *testing.T) {
	for _, typ := range extremes {
		if 1 <= typ && typ <= 5 {
			continue
		}
		if s, e := Start(typ); s != nil || e != api.ErrArg {
			t.Errorf("Start(%d) = %v, %d", typ, s, e)
		}
		for _, s := range [][]int{nil, {0}, {1}, {-1}, make([]int, 51)} {
			wantCheck(t, typ, s, api.ErrArg)
			for _, kind := range []int{0, api.KWrite, api.KDeq, 99} {
				wantStepError(t, typ, s, kind, 0, api.ErrArg)
			}
		}
		wantPlay(t, typ, nil, 0, api.ErrArg)
		wantPlay(t, typ, []api.Do{{Kind: api.KRead}, {}}, 0, api.ErrArg)
	}
}

// P4.1: Check finds more than 50 elements before anything else in the state.
func TestLongStates(t *testing.T) {
	for typ := api.TReg; typ <= api.TTicket; typ++ {
		wantCheck(t, typ, upTo(51), api.ErrLarge)
		wantCheck(t, typ, make([]int, 51), api.ErrLarge)
		wantCheck(t, typ, make([]int, 50), api.ErrForm)
		wantStepError(t, typ, upTo(51), kinds(typ)[0], 0, api.ErrLarge)
		wantStepError(t, typ, upTo(51), 99, -1, api.ErrLarge)
	}
	for _, typ := range []int{api.TQueue, api.TStack, api.TSet} {
		wantCheck(t, typ, upTo(50), api.OK)
	}
}

// P4.1: the state of a register or ticket counter is one number from 0 to 1000.
func TestNumberStates(t *testing.T) {
	for _, typ := range []int{api.TReg, api.TTicket} {
		for _, s := range [][]int{nil, {}, {0, 0}, {1, 2}, {3, 0}, upTo(50)} {
			wantCheck(t, typ, s, api.ErrForm)
			wantStepError(t, typ, s, kinds(typ)[0], 1, api.ErrForm)
		}
		for _, n := range extremes {
			if 0 <= n && n <= 1000 {
				wantCheck(t, typ, []int{n}, api.OK)
			} else {
				wantCheck(t, typ, []int{n}, api.ErrForm)
			}
		}
	}
}

// P4.1: the elements of the other states are from 1 to 1000.
func TestElements(t *testing.T) {
	for _, typ := range []int{api.TQueue, api.TStack, api.TSet} {
		wantCheck(t, typ, nil, api.OK)
		wantCheck(t, typ, []int{}, api.OK)
		for _, n := range extremes {
			want := api.ErrForm
			if 1 <= n && n <= 1000 {
				want = api.OK
			}
			wantCheck(t, typ, []int{n}, want)
			if n != 500 {
				wantCheck(t, typ, slices.Sorted(slices.Values([]int{n, 500})), want)
			}
			if want != api.OK {
				wantStepError(t, typ, []int{n}, kinds(typ)[1], 0, api.ErrForm)
			}
		}
		wantCheck(t, typ, []int{1, 2, 1001}, api.ErrForm)
		wantCheck(t, typ, []int{0, 1, 2}, api.ErrForm)
	}
}

// P4.1: only the elements of a set have an order.
func TestOrder(t *testing.T) {
	for _, s := range [][]int{{1, 1}, {2, 1}, {1, 3, 2}, {1, 2, 2}, {1000, 1}, {2, 2, 3}} {
		wantCheck(t, api.TSet, s, api.ErrForm)
		wantStepError(t, api.TSet, s, api.KHas, 1, api.ErrForm)
		wantCheck(t, api.TQueue, s, api.OK)
		wantCheck(t, api.TStack, s, api.OK)
	}
	wantCheck(t, api.TSet, []int{1, 2, 1000}, api.OK)
}

// P4.2: operations of a register.
func TestRegister(t *testing.T) {
	for _, n := range []int{0, 1, 999, 1000} {
		wantStep(t, api.TReg, []int{n}, api.KRead, 0, []int{n}, n)
		for _, m := range []int{1, 2, 999, 1000} {
			wantStep(t, api.TReg, []int{n}, api.KWrite, m, []int{m}, 0)
		}
	}
}

// P4.2: operations of a queue.
func TestQueue(t *testing.T) {
	wantStep(t, api.TQueue, nil, api.KEnq, 7, []int{7}, 0)
	wantStep(t, api.TQueue, []int{9, 1}, api.KEnq, 1, []int{9, 1, 1}, 0)
	wantStep(t, api.TQueue, nil, api.KDeq, 0, nil, -1)
	wantStep(t, api.TQueue, []int{}, api.KDeq, 0, nil, -1)
	wantStep(t, api.TQueue, []int{4}, api.KDeq, 0, nil, 4)
	wantStep(t, api.TQueue, []int{9, 1, 9, 2}, api.KDeq, 0, []int{1, 9, 2}, 9)
	wantStep(t, api.TQueue, upTo(50), api.KDeq, 0, upTo(50)[1:], 1)
}

// P4.2: operations of a stack.
func TestStack(t *testing.T) {
	wantStep(t, api.TStack, nil, api.KPush, 7, []int{7}, 0)
	wantStep(t, api.TStack, []int{9, 1}, api.KPush, 1, []int{9, 1, 1}, 0)
	wantStep(t, api.TStack, nil, api.KPop, 0, nil, -1)
	wantStep(t, api.TStack, []int{}, api.KPop, 0, nil, -1)
	wantStep(t, api.TStack, []int{4}, api.KPop, 0, nil, 4)
	wantStep(t, api.TStack, []int{9, 1, 9, 2}, api.KPop, 0, []int{9, 1, 9}, 2)
	wantStep(t, api.TStack, upTo(50), api.KPop, 0, upTo(49), 50)
}

// P4.2: operations of a set, with an element before, between and after the others.
func TestSet(t *testing.T) {
	wantStep(t, api.TSet, nil, api.KAdd, 5, []int{5}, 1)
	wantStep(t, api.TSet, nil, api.KRemove, 5, nil, 0)
	wantStep(t, api.TSet, nil, api.KHas, 5, nil, 0)
	s := []int{3, 5, 9}
	for at, n := range s {
		wantStep(t, api.TSet, s, api.KAdd, n, s, 0)
		wantStep(t, api.TSet, s, api.KHas, n, s, 1)
		wantStep(t, api.TSet, s, api.KRemove, n, slices.Delete(slices.Clone(s), at, at+1), 1)
	}
	for at, n := range []int{1, 4, 6, 1000} {
		wantStep(t, api.TSet, s, api.KAdd, n, slices.Insert(slices.Clone(s), at, n), 1)
		wantStep(t, api.TSet, s, api.KHas, n, s, 0)
		wantStep(t, api.TSet, s, api.KRemove, n, s, 0)
	}
}

// P4.2: operations of a ticket counter.
func TestTicket(t *testing.T) {
	for _, n := range []int{0, 1, 7, 998, 999} {
		wantStep(t, api.TTicket, []int{n}, api.KTake, 0, []int{n + 1}, n)
	}
	wantStepError(t, api.TTicket, []int{1000}, api.KTake, 0, api.ErrLarge)
}

// P4.2: at most 50 elements fit in; what needs no room is possible in a full state.
func TestRoom(t *testing.T) {
	wantStep(t, api.TQueue, upTo(49), api.KEnq, 50, upTo(50), 0)
	wantStep(t, api.TStack, upTo(49), api.KPush, 50, upTo(50), 0)
	wantStep(t, api.TSet, upTo(49), api.KAdd, 50, upTo(50), 1)
	wantStepError(t, api.TQueue, upTo(50), api.KEnq, 1, api.ErrLarge)
	wantStepError(t, api.TStack, upTo(50), api.KPush, 1, api.ErrLarge)
	wantStepError(t, api.TSet, upTo(50), api.KAdd, 51, api.ErrLarge)
	wantStep(t, api.TSet, upTo(50), api.KAdd, 50, upTo(50), 0)
	wantStep(t, api.TSet, upTo(50), api.KHas, 51, upTo(50), 0)
	wantStep(t, api.TSet, upTo(50), api.KHas, 1, upTo(50), 1)
	wantStep(t, api.TSet, upTo(50), api.KRemove, 51, upTo(50), 0)
	wantStep(t, api.TSet, upTo(50), api.KRemove, 50, upTo(49), 1)
}

// P4.2: an operation of another type is an error, and so is a number without an operation.
func TestOtherKinds(t *testing.T) {
	for typ := api.TReg; typ <= api.TTicket; typ++ {
		for _, kind := range extremes {
			if slices.Contains(kinds(typ), kind) {
				continue
			}
			for _, arg := range []int{-1, 0, 1, 1000} {
				wantStepError(t, typ, oneState(typ), kind, arg, api.ErrForm)
			}
		}
	}
}

// P4.2: arguments are in the ranges of the operations.
func TestArguments(t *testing.T) {
	for typ := api.TReg; typ <= api.TTicket; typ++ {
		for _, kind := range kinds(typ) {
			for _, arg := range extremes {
				want := api.ErrForm
				if isPlain(kind) && arg == 0 || !isPlain(kind) && 1 <= arg && arg <= 1000 {
					want = api.OK
				}
				if _, _, e := Step(typ, oneState(typ), kind, arg); e != want {
					t.Errorf("Step(%d, %v, %d, %d): %d; want %d", typ, oneState(typ), kind, arg, e, want)
				}
			}
		}
	}
}

// P4.2: a wrong operation or argument comes before a lack of room, and a wrong state before both.
func TestOrderOfErrors(t *testing.T) {
	wantStepError(t, api.TQueue, upTo(50), api.KEnq, 0, api.ErrForm)
	wantStepError(t, api.TQueue, upTo(50), api.KEnq, 1001, api.ErrForm)
	wantStepError(t, api.TQueue, upTo(50), api.KPush, 1, api.ErrForm)
	wantStepError(t, api.TStack, upTo(50), api.KPush, -1, api.ErrForm)
	wantStepError(t, api.TSet, upTo(50), api.KAdd, 1001, api.ErrForm)
	wantStepError(t, api.TTicket, []int{1000}, api.KTake, 1, api.ErrForm)
	wantStepError(t, api.TTicket, []int{1001}, api.KTake, 0, api.ErrForm)
	wantStepError(t, api.TQueue, make([]int, 50), api.KEnq, 1, api.ErrForm)
	wantStepError(t, api.TQueue, upTo(51), api.KPush, 0, api.ErrLarge)
}

// P4.3: Play goes on to the first operation that does not have its result.
func TestPlay(t *testing.T) {
	queue := []api.Do{{Kind: api.KEnq, Arg: 1}, {Kind: api.KEnq, Arg: 2}, {Kind: api.KDeq, Res: 1}, {Kind: api.KDeq, Res: 2}, {Kind: api.KDeq, Res: -1}}
	stack := []api.Do{{Kind: api.KPush, Arg: 1}, {Kind: api.KPush, Arg: 2}, {Kind: api.KPop, Res: 2}, {Kind: api.KPop, Res: 1}, {Kind: api.KPop, Res: -1}}
	set := []api.Do{{Kind: api.KAdd, Arg: 4, Res: 1}, {Kind: api.KAdd, Arg: 4}, {Kind: api.KHas, Arg: 4, Res: 1}, {Kind: api.KRemove, Arg: 4, Res: 1}, {Kind: api.KHas, Arg: 4}, {Kind: api.KRemove, Arg: 4}}
	register := []api.Do{{Kind: api.KRead}, {Kind: api.KWrite, Arg: 3}, {Kind: api.KRead, Res: 3}, {Kind: api.KRead, Res: 3}}
	ticket := []api.Do{{Kind: api.KTake}, {Kind: api.KTake, Res: 1}, {Kind: api.KTake, Res: 2}}
	for typ, l := range [][]api.Do{api.TReg: register, api.TQueue: queue, api.TStack: stack, api.TSet: set, api.TTicket: ticket} {
		if typ == 0 {
			continue
		}
		for i := range l {
			wantPlay(t, typ, l[:i], i, api.OK)
			for _, off := range []int{-2, -1, 1, 1000} {
				wrong := slices.Clone(l)
				wrong[i].Res += off
				wantPlay(t, typ, wrong, i, api.OK)
				wantPlay(t, typ, wrong[:i+1], i, api.OK)
			}
		}
		wantPlay(t, typ, l, len(l), api.OK)
	}
}

// P4.3: Play begins with the initial state.
func TestPlayFirst(t *testing.T) {
	wantPlay(t, api.TReg, []api.Do{{Kind: api.KRead, Res: 1}}, 0, api.OK)
	wantPlay(t, api.TTicket, []api.Do{{Kind: api.KTake, Res: 1}}, 0, api.OK)
	wantPlay(t, api.TQueue, []api.Do{{Kind: api.KDeq, Res: 1}}, 0, api.OK)
	wantPlay(t, api.TSet, []api.Do{{Kind: api.KHas, Arg: 1, Res: 1}}, 0, api.OK)
	for typ := api.TReg; typ <= api.TTicket; typ++ {
		wantPlay(t, typ, nil, 0, api.OK)
		wantPlay(t, typ, []api.Do{}, 0, api.OK)
	}
}

// P4.3: an operation for which Step returns an error is not accepted, though its result is 0 as that of the error.
func TestPlayErrors(t *testing.T) {
	good := api.Do{Kind: api.KEnq, Arg: 1}
	for _, bad := range []api.Do{{}, {Kind: api.KEnq}, {Kind: api.KEnq, Arg: 1001}, {Kind: api.KPush, Arg: 1}, {Kind: 11}, {Kind: -1}} {
		wantPlay(t, api.TQueue, []api.Do{bad, good}, 0, api.OK)
		wantPlay(t, api.TQueue, []api.Do{good, good, bad, good, bad}, 2, api.OK)
	}
	wantPlay(t, api.TQueue, slices.Repeat([]api.Do{good}, 50), 50, api.OK)
	wantPlay(t, api.TQueue, slices.Repeat([]api.Do{good}, 60), 50, api.OK)
	var takes []api.Do
	for n := range 1100 {
		takes = append(takes, api.Do{Kind: api.KTake, Res: n})
	}
	wantPlay(t, api.TTicket, takes, 1000, api.OK)
	takes[1000].Res = 0
	wantPlay(t, api.TTicket, takes, 1000, api.OK)
}
