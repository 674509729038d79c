package seq

import (
	"math/rand/v2"
	"slices"
	"testing"

	"alibi/api"
	"alibi/history"
	"alibi/object"
	"alibi/search"
)

// An order reports whether the first operation may not come after the second one.
type order func(first, second int) bool

// naiveProcess returns the order of the processes.
func naiveProcess(calls []api.Call) order {
	return func(first, second int) bool {
		return calls[first].Who == calls[second].Who && calls[first].From < calls[second].From
	}
}

// naiveEpochs returns, for each operation, the number of positions before its
// invocation that are quiescent points.
func naiveEpochs(calls []api.Call) []int {
	epochs := make([]int, len(calls))
	for i, c := range calls {
		for position := 0; position <= c.From; position++ {
			if naivePoint(calls, position) {
				epochs[i]++
			}
		}
	}
	return epochs
}

// naivePoint reports whether a position, that is the number of the events
// before it, is a quiescent point.
func naivePoint(calls []api.Call, position int) bool {
	invoked, answered := 0, 0
	for _, c := range calls {
		if c.From < position {
			invoked++
		}
		if c.To != -1 && c.To < position {
			answered++
		}
	}
	return invoked > 0 && answered == invoked
}

// naiveEpoch returns the order of the epochs.
func naiveEpoch(calls []api.Call) order {
	epochs := naiveEpochs(calls)
	return func(first, second int) bool { return epochs[first] < epochs[second] }
}

// naiveRight reports whether the steps are a witness that keeps the order, by the words of the definition.
func naiveRight(types []int, calls []api.Call, before order, w []api.Step) bool {
	if !naivePart(types, calls, before, w) {
		return false
	}
	for i, c := range calls {
		if c.To != -1 && !slices.Contains(w, api.Step{Call: i, Res: c.Res}) {
			return false
		}
	}
	return true
}

// naivePart reports whether the steps are right as far as they go.
func naivePart(types []int, calls []api.Call, before order, w []api.Step) bool {
	things := make([][]api.Do, len(types))
	for b, second := range w {
		if second.Call < 0 || second.Call >= len(calls) {
			return false
		}
		for _, first := range w[:b] {
			if first.Call == second.Call || before(second.Call, first.Call) {
				return false
			}
		}
		c := calls[second.Call]
		if c.To != -1 && second.Res != c.Res {
			return false
		}
		things[c.Thing] = append(things[c.Thing], api.Do{Kind: c.Kind, Arg: c.Arg, Res: second.Res})
	}
	for thing, l := range things {
		if n, e := object.Play(types[thing], l); n != len(l) || e != api.OK {
			return false
		}
	}
	return true
}

// everyPart visits, in their order, all lists of steps that are right as far as they go, until visit returns false.
func everyPart(types []int, calls []api.Call, before order, w []api.Step, visit func([]api.Step) bool) bool {
	if !visit(w) {
		return false
	}
	for i, c := range calls {
		least, most := -1, len(calls)
		if c.To != -1 {
			least, most = c.Res, c.Res
		}
		for result := least; result <= most; result++ {
			longer := append(w[:len(w):len(w)], api.Step{Call: i, Res: result})
			if naivePart(types, calls, before, longer) && !everyPart(types, calls, before, longer, visit) {
				return false
			}
		}
	}
	return true
}

// naiveFind returns the first witness that keeps the order. The results of
// operations without a response are at most the number of operations.
func naiveFind(types []int, calls []api.Call, before order) ([]api.Step, bool) {
	var found []api.Step
	none := everyPart(types, calls, before, nil, func(w []api.Step) bool {
		if naiveRight(types, calls, before, w) {
			found = w
			return false
		}
		return true
	})
	return found, !none
}

// compare compares Find, Calm and Quiet with the naive ones, and reports
// whether there are a sequentially and a quiescently consistent witness.
func compare(t *testing.T, types []int, l []api.Event) (bool, bool) {
	t.Helper()
	calls, _, e := history.Calls(types, l)
	if e != api.OK {
		t.Fatal(types, l, e)
	}
	wantCalm(t, types, l, naiveEpochs(calls)...)
	w, inOrder := naiveFind(types, calls, naiveProcess(calls))
	if inOrder {
		wantFind(t, types, l, w...)
	} else {
		wantNoFind(t, types, l)
	}
	w, quiet := naiveFind(types, calls, naiveEpoch(calls))
	if quiet {
		wantQuiet(t, types, l, w...)
	} else {
		wantNoQuiet(t, types, l)
	}
	return inOrder, quiet
}

// everyHistory visits all histories of at most n events of an alphabet.
func everyHistory(types []int, n int, alphabet, l []api.Event, visit func([]api.Event)) {
	if _, _, e := history.Calls(types, l); e != api.OK {
		return
	}
	visit(l)
	if len(l) < n {
		for _, event := range alphabet {
			everyHistory(types, n, alphabet, append(l[:len(l):len(l)], event), visit)
		}
	}
}

// pairs are an operation with an argument and one without, of each type that has both, and results.
var pairs = []struct{ typ, put, get, getArg, least, most int }{
	{api.TReg, api.KWrite, api.KRead, 0, 0, 2},
	{api.TQueue, api.KEnq, api.KDeq, 0, -1, 2},
	{api.TStack, api.KPush, api.KPop, 0, -1, 2},
	{api.TSet, api.KAdd, api.KRemove, 1, 0, 1},
}

// P7.1, P7.2: all histories of up to six events of two processes, one of which puts less.
func TestAllSmall(t *testing.T) {
	var counts [2][2]int
	for _, p := range pairs {
		alphabet := []api.Event{call(0, 0, p.get, p.getArg), call(0, 0, p.put, 1), call(1, 0, p.get, p.getArg)}
		if p.typ != api.TSet {
			alphabet = append(alphabet, call(0, 0, p.put, 2))
		}
		for result := p.least; result <= p.most; result++ {
			alphabet = append(alphabet, end(0, 0, result), end(1, 0, result))
		}
		everyHistory([]int{p.typ}, 6, alphabet, nil, func(l []api.Event) {
			inOrder, quiet := compare(t, []int{p.typ}, l)
			counts[bit(inOrder)][bit(quiet)]++
		})
	}
	for _, pair := range counts {
		if slices.Min(pair[:]) < 100 {
			t.Error(counts)
		}
	}
}

// bit returns 1 for true and 0 for false.
func bit(is bool) int {
	if is {
		return 1
	}
	return 0
}

// P7.1: all lists of up to three steps, for histories of up to two operations.
func TestAllSteps(t *testing.T) {
	random := rand.New(rand.NewPCG(7, 1))
	lists := [][]api.Step{nil}
	for at := 0; len(lists[at]) < 3; at++ {
		for i := -1; i <= 2; i++ {
			for result := -1; result <= 2; result++ {
				lists = append(lists, append(slices.Clone(lists[at]), step(i, result)))
			}
		}
	}
	for range 60 {
		types, l := simulate(random, 2, 2)
		calls, _, _ := history.Calls(types, l)
		for _, w := range lists {
			wantRight(t, types, l, naiveRight(types, calls, naiveProcess(calls), w), w...)
		}
	}
}

// someOperation returns an operation of a type, with an argument.
func someOperation(random *rand.Rand, typ int) (int, int) {
	few := 1 + random.IntN(2)
	options := [][][2]int{
		api.TReg:    {{api.KWrite, few}, {api.KRead, 0}},
		api.TQueue:  {{api.KEnq, few}, {api.KDeq, 0}},
		api.TStack:  {{api.KPush, few}, {api.KPop, 0}},
		api.TSet:    {{api.KAdd, few}, {api.KRemove, few}, {api.KHas, few}},
		api.TTicket: {{api.KTake, 0}},
	}[typ]
	o := options[random.IntN(len(options))]
	return o[0], o[1]
}

// someTypes returns types of up to three objects.
func someTypes(random *rand.Rand) []int {
	types := make([]int, 1+random.IntN(1+random.IntN(3)))
	for thing := range types {
		types[thing] = 1 + random.IntN(api.TTicket)
	}
	return types
}

// simulate returns a history of n operations at some objects. Their results are
// those of some order of the operations: one that the processes keep, or any
// other one; or else some results are changed.
func simulate(random *rand.Rand, n, whos int) ([]int, []api.Event) {
	types := someTypes(random)
	var asks []api.Call
	for range n {
		thing := random.IntN(len(types))
		kind, arg := someOperation(random, types[thing])
		asks = append(asks, api.Call{Who: random.IntN(whos), Thing: thing, Kind: kind, Arg: arg})
	}
	perform(types, asks)
	switch random.IntN(3) {
	case 0:
		for range 2 {
			c := &asks[random.IntN(n)]
			*c = otherResult(random, types, *c)
		}
	case 1:
		random.Shuffle(n, func(i, j int) { asks[i], asks[j] = asks[j], asks[i] })
	}
	return types, interleave(random, asks)
}

// perform gives the operations the results that they have one after the other.
func perform(types []int, asks []api.Call) {
	states := make([][]int, len(types))
	for thing, typ := range types {
		states[thing], _ = object.Start(typ)
	}
	for i, c := range asks {
		states[c.Thing], asks[i].Res, _ = object.Step(types[c.Thing], states[c.Thing], c.Kind, c.Arg)
	}
}

// otherResult returns the operation with a small result that it may have.
func otherResult(random *rand.Rand, types []int, c api.Call) api.Call {
	result := random.IntN(4) - 1
	l := whole(0, c.Thing, c.Kind, c.Arg, result)
	if _, _, e := history.Calls(types, l); e == api.OK {
		c.Res = result
	}
	return c
}

// interleave returns a history in which each process calls its operations in
// order; the last ones may be left without a response.
func interleave(random *rand.Rand, asks []api.Call) []api.Event {
	// The more operations are without a response for long, the fewer quiescent points there are.
	slow, late := random.IntN(5), -1
	if random.IntN(2) == 0 {
		late = asks[0].Who
	}
	var left [api.MaxWho][]api.Event
	for _, c := range asks {
		left[c.Who] = append(left[c.Who], whole(c.Who, c.Thing, c.Kind, c.Arg, c.Res)...)
	}
	var l []api.Event
	for round := range 20 * len(asks) {
		who := random.IntN(api.MaxWho)
		if len(left[who]) == 0 {
			continue
		}
		n := 1
		if left[who][0].Kind != api.KEnd && random.IntN(4) >= slow && who != late {
			n = 2
		}
		if left[who][0].Kind == api.KEnd && who == late && round < 12*len(asks) {
			n = 0
		}
		l = append(l, left[who][:n]...)
		left[who] = left[who][n:]
	}
	return l
}

// P7.1, P7.2: histories of three to six operations at up to three objects.
func TestSomeLarger(t *testing.T) {
	random := rand.New(rand.NewPCG(7, 2))
	var counts [2][2]int
	for range 10_000 {
		types, l := simulate(random, 3+random.IntN(4), 2+random.IntN(3))
		inOrder, quiet := compare(t, types, l)
		counts[bit(inOrder)][bit(quiet)]++
	}
	for _, pair := range counts {
		if slices.Min(pair[:]) < 100 {
			t.Error(counts)
		}
	}
}

// P7.1: witnesses of histories of up to nine operations with one change.
func TestSomeChanged(t *testing.T) {
	random := rand.New(rand.NewPCG(7, 3))
	right, wrong := 0, 0
	for range 20_000 {
		types, l := simulate(random, 1+random.IntN(9), 1+random.IntN(api.MaxWho))
		w, is, e := Find(types, l)
		if e != api.OK {
			t.Fatal(types, l, e)
		}
		if !is || len(w) == 0 {
			continue
		}
		calls, _, _ := history.Calls(types, l)
		i, j := random.IntN(len(w)), random.IntN(len(w))
		switch random.IntN(5) {
		case 0:
			w[i], w[j] = w[j], w[i]
		case 1:
			w[i].Res += 1 - 2*random.IntN(2)
		case 2:
			w[i].Call += 1 - 2*random.IntN(2)
		case 3:
			w = slices.Delete(w, i, i+1)
		case 4:
			w = slices.Insert(w, i, step(random.IntN(len(calls)), random.IntN(4)-1))
		}
		want := naiveRight(types, calls, naiveProcess(calls), w)
		wantRight(t, types, l, want, w...)
		if want {
			right++
		} else {
			wrong++
		}
	}
	if right < 1000 || wrong < 1000 {
		t.Errorf("%d lists are right, %d are not", right, wrong)
	}
}

// P7.1, P7.2: for histories of up to nine operations, what Find and Quiet
// return is a witness, and a history that is linearizable has both.
func TestHierarchy(t *testing.T) {
	random := rand.New(rand.NewPCG(7, 4))
	linear, inOrder, quiet := 0, 0, 0
	for range 6000 {
		types, l := simulate(random, 1+random.IntN(9), 1+random.IntN(api.MaxWho))
		calls, _, _ := history.Calls(types, l)
		least, isLinear, _ := search.Find(types, l)
		found, isFound, _ := Find(types, l)
		calm, isCalm, _ := Quiet(types, l)
		if isFound && !naiveRight(types, calls, naiveProcess(calls), found) {
			t.Errorf("Find(%v, %v) = %v", types, l, found)
		}
		if isCalm && !naiveRight(types, calls, naiveEpoch(calls), calm) {
			t.Errorf("Quiet(%v, %v) = %v", types, l, calm)
		}
		if isLinear && (!isFound || !isCalm) {
			t.Errorf("%v, %v: linearizable, but %v, %v", types, l, isFound, isCalm)
		}
		if isLinear {
			wantRight(t, types, l, true, least...)
		}
		linear += bit(isLinear)
		inOrder += bit(isFound)
		quiet += bit(isCalm)
	}
	if linear < 600 || inOrder < linear+600 || quiet < linear+100 || max(inOrder, quiet) > 5800 {
		t.Errorf("of 6000 histories, %d are linearizable, %d sequentially and %d quiescently consistent", linear, inOrder, quiet)
	}
}
