package search

import (
	"math/rand/v2"
	"slices"
	"testing"

	"alibi/api"
	"alibi/history"
	"alibi/object"
)

// mostNaive is the largest result that naiveFind considers: that of the last of six tickets.
const mostNaive = 5

// naiveRight reports whether the steps are a linearization, by the words of the definition.
func naiveRight(types []int, calls []api.Call, w []api.Step) bool {
	if !naivePart(types, calls, w) {
		return false
	}
	for i, c := range calls {
		if c.To != -1 && !slices.Contains(w, api.Step{Call: i, Res: c.Res}) {
			return false
		}
	}
	return true
}

// naivePart reports whether the steps are right as far as they go.
func naivePart(types []int, calls []api.Call, w []api.Step) bool {
	ahead, _ := history.Ahead(calls)
	things := make([][]api.Do, len(types))
	for b, second := range w {
		if second.Call < 0 || second.Call >= len(calls) {
			return false
		}
		for _, first := range w[:b] {
			if first.Call == second.Call || ahead.After[second.Call]>>first.Call&1 == 1 {
				return false
			}
		}
		c := calls[second.Call]
		if c.To != -1 && second.Res != c.Res {
			return false
		}
		things[c.Thing] = append(things[c.Thing], api.Do{Kind: c.Kind, Arg: c.Arg, Res: second.Res})
	}
	for thing, l := range things {
		if n, e := object.Play(types[thing], l); n != len(l) || e != api.OK {
			return false
		}
	}
	return true
}

// everyPart visits, in their order, all lists of steps that are right as far as they go, until visit returns false.
func everyPart(types []int, calls []api.Call, w []api.Step, visit func([]api.Step) bool) bool {
	if !visit(w) {
		return false
	}
	for i := range calls {
		for result := -1; result <= mostNaive; result++ {
			longer := append(w[:len(w):len(w)], api.Step{Call: i, Res: result})
			if naivePart(types, calls, longer) && !everyPart(types, calls, longer, visit) {
				return false
			}
		}
	}
	return true
}

// naiveFind returns the first linearization.
func naiveFind(types []int, calls []api.Call) ([]api.Step, bool) {
	var found []api.Step
	none := everyPart(types, calls, nil, func(w []api.Step) bool {
		if naiveRight(types, calls, w) {
			found = w
			return false
		}
		return true
	})
	return found, !none
}

// compare compares Find with naiveFind, and reports whether there is a linearization.
func compare(t *testing.T, types []int, l []api.Event) bool {
	t.Helper()
	calls, _, e := history.Calls(types, l)
	if e != api.OK {
		t.Fatal(types, l, e)
	}
	w, is := naiveFind(types, calls)
	if !is {
		wantNone(t, types, l)
		return false
	}
	wantFind(t, types, l, w...)
	return true
}

// compareRight compares Right with naiveRight.
func compareRight(t *testing.T, types []int, l []api.Event, calls []api.Call, w []api.Step) {
	t.Helper()
	wantRight(t, types, l, naiveRight(types, calls, w), w...)
}

// everyHistory visits all histories of at most n events of an alphabet.
func everyHistory(types []int, n int, alphabet, l []api.Event, visit func([]api.Event)) {
	if _, _, e := history.Calls(types, l); e != api.OK {
		return
	}
	visit(l)
	if len(l) < n {
		for _, event := range alphabet {
			everyHistory(types, n, alphabet, append(l[:len(l):len(l)], event), visit)
		}
	}
}

// pairs are an operation with an argument and one without, of each type that has both, and results.
var pairs = []struct{ typ, put, get, getArg, least, most int }{
	{api.TReg, api.KWrite, api.KRead, 0, 0, 2},
	{api.TQueue, api.KEnq, api.KDeq, 0, -1, 2},
	{api.TStack, api.KPush, api.KPop, 0, -1, 2},
	{api.TSet, api.KAdd, api.KRemove, 1, 0, 1},
	{api.TSet, api.KAdd, api.KHas, 2, 0, 1},
}

// P5.2: all histories of up to six events, in which one process only gets, one only puts, and one does both.
func TestAllSmall(t *testing.T) {
	right, wrong := 0, 0
	for _, p := range pairs {
		var alphabet []api.Event
		for who := range 3 {
			if who < 2 {
				alphabet = append(alphabet, call(who, 0, p.get, p.getArg))
			}
			if who > 0 {
				alphabet = append(alphabet, call(who, 0, p.put, who))
			}
			for result := p.least; result <= p.most; result++ {
				alphabet = append(alphabet, end(who, 0, result))
			}
		}
		everyHistory([]int{p.typ}, 6, alphabet, nil, func(l []api.Event) {
			if compare(t, []int{p.typ}, l) {
				right++
			} else {
				wrong++
			}
		})
	}
	if right < 10_000 || wrong < 10_000 {
		t.Errorf("%d histories are linearizable, %d are not", right, wrong)
	}
}

// P5.1: all lists of up to three steps, for histories of up to two operations.
func TestAllSteps(t *testing.T) {
	random := rand.New(rand.NewPCG(5, 1))
	lists := [][]api.Step{nil}
	for at := 0; len(lists[at]) < 3; at++ {
		for i := -1; i <= 2; i++ {
			for result := -1; result <= 2; result++ {
				lists = append(lists, append(slices.Clone(lists[at]), step(i, result)))
			}
		}
	}
	for range 60 {
		types, l := simulate(random, 2, 2)
		calls, _, _ := history.Calls(types, l)
		for _, w := range lists {
			compareRight(t, types, l, calls, w)
		}
	}
}

// A caller is what one process does: nothing, or an operation, which has taken effect or not.
type caller struct {
	busy, done         bool
	thing, kind, value int
	result             int
}

// someOperation returns an operation of a type, with an argument.
func someOperation(random *rand.Rand, typ int) (int, int) {
	many, few := 1+random.IntN(4), 1+random.IntN(2)
	options := [][][2]int{
		api.TReg:    {{api.KWrite, many}, {api.KRead, 0}},
		api.TQueue:  {{api.KEnq, many}, {api.KDeq, 0}},
		api.TStack:  {{api.KPush, many}, {api.KPop, 0}},
		api.TSet:    {{api.KAdd, few}, {api.KRemove, few}, {api.KHas, few}},
		api.TTicket: {{api.KTake, 0}},
	}[typ]
	o := options[random.IntN(len(options))]
	return o[0], o[1]
}

// simulate returns a history of at most n operations at some objects, each of
// which takes effect between its two events; sometimes a response is another one.
func simulate(random *rand.Rand, n, whos int) ([]int, []api.Event) {
	types := make([]int, 1+random.IntN(3))
	states := make([][]int, len(types))
	for thing := range types {
		types[thing] = 1 + random.IntN(api.TTicket)
		states[thing], _ = object.Start(types[thing])
	}
	lie := random.IntN(2) == 0
	callers := make([]caller, whos)
	var l []api.Event
	for range n * 4 {
		who := random.IntN(whos)
		c := &callers[who]
		switch {
		case !c.busy && n > 0:
			n--
			c.busy, c.done, c.thing = true, false, random.IntN(len(types))
			c.kind, c.value = someOperation(random, types[c.thing])
			l = append(l, call(who, c.thing, c.kind, c.value))
		case c.busy && !c.done:
			c.done = true
			states[c.thing], c.result, _ = object.Step(types[c.thing], states[c.thing], c.kind, c.value)
		case c.busy:
			c.busy = false
			l = append(l, end(who, c.thing, c.result))
			if lie && random.IntN(3) == 0 {
				l[len(l)-1].Value = random.IntN(mostNaive+2) - 1
				if _, _, e := history.Calls(types, l); e != api.OK {
					l[len(l)-1].Value = c.result
				}
			}
		}
	}
	return types, l
}

// P5.2: histories of up to six operations at up to three objects.
func TestSomeLarger(t *testing.T) {
	random := rand.New(rand.NewPCG(5, 2))
	right := 0
	for range 4000 {
		types, l := simulate(random, 2+random.IntN(5), 2+random.IntN(4))
		if compare(t, types, l) {
			right++
		}
	}
	if right < 2200 || right > 3800 {
		t.Errorf("%d histories of 4000 are linearizable", right)
	}
}

// P5.1: linearizations of histories of up to nine operations with one change.
func TestSomeChanged(t *testing.T) {
	random := rand.New(rand.NewPCG(5, 3))
	right, wrong := 0, 0
	for range 20_000 {
		types, l := simulate(random, 1+random.IntN(9), 1+random.IntN(api.MaxWho))
		w, is, e := Find(types, l)
		if e != api.OK {
			t.Fatal(types, l, e)
		}
		if !is || len(w) == 0 {
			continue
		}
		calls, _, _ := history.Calls(types, l)
		compareRight(t, types, l, calls, w)
		i, j := random.IntN(len(w)), random.IntN(len(w))
		switch random.IntN(5) {
		case 0:
			w[i], w[j] = w[j], w[i]
		case 1:
			w[i].Res += 1 - 2*random.IntN(2)
		case 2:
			w[i].Call += 1 - 2*random.IntN(2)
		case 3:
			w = slices.Delete(w, i, i+1)
		case 4:
			w = slices.Insert(w, i, step(random.IntN(len(calls)), random.IntN(4)-1))
		}
		compareRight(t, types, l, calls, w)
		if naiveRight(types, calls, w) {
			right++
		} else {
			wrong++
		}
	}
	if right < 1000 || wrong < 1000 {
		t.Errorf("%d lists are right, %d are not", right, wrong)
	}
}

// P5.2: a history of up to nine operations without a lie is linearizable, and
// any history is if and only if the history of each object is.
func TestEachObject(t *testing.T) {
	random := rand.New(rand.NewPCG(5, 4))
	counts := map[bool]int{}
	for range 3000 {
		types, l := simulate(random, 9, 1+random.IntN(api.MaxWho))
		_, is, _ := Find(types, l)
		want := true
		for thing := range types {
			part, _ := history.Part(types, l, thing)
			_, alone, _ := Find(types, part)
			want = want && alone
		}
		if is != want {
			t.Errorf("Find(%v, %v): %v; want %v", types, l, is, want)
		}
		counts[is]++
	}
	if counts[true] < 1000 || counts[false] < 300 {
		t.Error(counts)
	}
}
