package local

import (
	"math/rand/v2"
	"slices"
	"testing"

	"alibi/api"
	"alibi/history"
	"alibi/object"
	"alibi/search"
)

// precedes reports whether the first operation has its response before the second one has its invocation.
func precedes(first, second api.Call) bool {
	return first.To != -1 && first.To < second.From
}

// everyList visits, in their order, all lists of different ones of these
// numbers that begin with the list, until visit returns false.
func everyList(numbers, list []int, visit func([]int) bool) bool {
	if !visit(list) {
		return false
	}
	for _, n := range numbers {
		if !slices.Contains(list, n) && !everyList(numbers, append(list[:len(list):len(list)], n), visit) {
			return false
		}
	}
	return true
}

// naiveSteps returns the steps of a list of operations of one object, if it is
// a linearization of the part of this object.
func naiveSteps(typ, thing int, calls []api.Call, list []int) ([]api.Step, bool) {
	var w []api.Step
	state, _ := object.Start(typ)
	for at, i := range list {
		for _, j := range list[:at] {
			if precedes(calls[i], calls[j]) {
				return nil, false
			}
		}
		next, result, e := object.Step(typ, state, calls[i].Kind, calls[i].Arg)
		if e != api.OK || calls[i].To != -1 && result != calls[i].Res {
			return nil, false
		}
		state = next
		w = append(w, step(i, result))
	}
	for i, c := range calls {
		if c.Thing == thing && c.To != -1 && !slices.Contains(list, i) {
			return nil, false
		}
	}
	return w, true
}

// naiveOrder returns the first linearization of the part of an object.
func naiveOrder(typ, thing int, calls []api.Call) ([]api.Step, bool) {
	var own []int
	for i, c := range calls {
		if c.Thing == thing {
			own = append(own, i)
		}
	}
	var found []api.Step
	none := everyList(own, nil, func(list []int) bool {
		w, is := naiveSteps(typ, thing, calls, list)
		found = w
		return !is
	})
	return found, !none
}

// naiveJoin returns the steps in the first order of all operations that keeps
// the orders of the lists and the real-time order.
func naiveJoin(calls []api.Call, w [][]api.Step) ([]api.Step, bool) {
	var numbers []int
	for i := range calls {
		numbers = append(numbers, i)
	}
	var found []int
	none := everyList(numbers, nil, func(list []int) bool {
		if len(list) < len(calls) || !naiveKeeps(calls, w, list) {
			return true
		}
		found = list
		return false
	})
	if none {
		return nil, false
	}
	var joined []api.Step
	all := slices.Concat(w...)
	for _, i := range found {
		if at := slices.IndexFunc(all, func(s api.Step) bool { return s.Call == i }); at != -1 {
			joined = append(joined, all[at])
		}
	}
	return joined, true
}

// naiveKeeps reports whether the order of all operations keeps the real-time order and those of the lists.
func naiveKeeps(calls []api.Call, w [][]api.Step, order []int) bool {
	for at, second := range order {
		for _, first := range order[:at] {
			if precedes(calls[second], calls[first]) {
				return false
			}
		}
	}
	for _, list := range w {
		for at := range list {
			for _, earlier := range list[:at] {
				if slices.Index(order, earlier.Call) > slices.Index(order, list[at].Call) {
					return false
				}
			}
		}
	}
	return true
}

// someOperation returns an operation of a type, with an argument.
func someOperation(random *rand.Rand, typ int) (int, int) {
	few := 1 + random.IntN(2)
	options := [][][2]int{
		api.TReg:    {{api.KWrite, few}, {api.KRead, 0}},
		api.TQueue:  {{api.KEnq, few}, {api.KDeq, 0}},
		api.TStack:  {{api.KPush, few}, {api.KPop, 0}},
		api.TSet:    {{api.KAdd, few}, {api.KRemove, few}, {api.KHas, few}},
		api.TTicket: {{api.KTake, 0}},
	}[typ]
	o := options[random.IntN(len(options))]
	return o[0], o[1]
}

// simulate returns a history of n operations at some objects, each of which
// takes effect at one of its events; sometimes a response is another one.
func simulate(random *rand.Rand, n, things, whos int) ([]int, []api.Event) {
	types := make([]int, things)
	states := make([][]int, things)
	for thing := range types {
		types[thing] = 1 + random.IntN(api.TTicket)
		states[thing], _ = object.Start(types[thing])
	}
	perform := func(c api.Event) int {
		state, result, _ := object.Step(types[c.Thing], states[c.Thing], c.Kind, c.Value)
		states[c.Thing] = state
		return result
	}
	var pending [api.MaxWho]*api.Event
	var results [api.MaxWho]int
	var early [api.MaxWho]bool
	lie := random.IntN(2) == 0
	var l []api.Event
	for n > 0 || random.IntN(4) > 0 {
		who := random.IntN(whos)
		if pending[who] == nil && n > 0 {
			n--
			thing := random.IntN(things)
			kind, value := someOperation(random, types[thing])
			c := call(who, thing, kind, value)
			pending[who], early[who] = &c, random.IntN(2) == 0
			if early[who] {
				results[who] = perform(c)
			}
			l = append(l, c)
		} else if pending[who] != nil {
			if !early[who] {
				results[who] = perform(*pending[who])
			}
			l = append(l, end(who, pending[who].Thing, results[who]))
			pending[who] = nil
			if lie && random.IntN(4) == 0 {
				l = changed(random, types, l)
			}
		}
	}
	return types, l
}

// changed returns the history with another value in its last event, if there is one that is possible.
func changed(random *rand.Rand, types []int, l []api.Event) []api.Event {
	other := slices.Clone(l)
	other[len(l)-1].Value = random.IntN(5) - 1
	if _, _, e := history.Calls(types, other); e != api.OK {
		return l
	}
	return other
}

// small returns a history of which no part has more operations than naiveOrder can do in time.
func small(random *rand.Rand, n, most int) ([]int, []api.Event, []api.Call) {
	for {
		types, l := simulate(random, n, 1+random.IntN(api.MaxThings), 1+random.IntN(api.MaxWho))
		calls, _, _ := history.Calls(types, l)
		var counts [api.MaxThings]int
		for _, c := range calls {
			counts[c.Thing]++
		}
		if slices.Max(counts[:]) <= most {
			return types, l, calls
		}
	}
}

// P6.1: histories of up to twelve operations, of which up to six are of one object.
func TestSomeOrders(t *testing.T) {
	random := rand.New(rand.NewPCG(6, 1))
	right, wrong := 0, 0
	for range 4000 {
		types, l, calls := small(random, 1+random.IntN(12), 6)
		orders := make([][]api.Step, len(types))
		parts := make([]bool, len(types))
		for thing, typ := range types {
			orders[thing], parts[thing] = naiveOrder(typ, thing, calls)
		}
		if slices.Contains(parts, false) {
			wantNone(t, types, l, parts...)
			wrong++
			continue
		}
		wantOrders(t, types, l, orders...)
		right++
	}
	if right < 1000 || wrong < 300 {
		t.Errorf("%d histories have linearizations of all parts, %d have not", right, wrong)
	}
}

// someLists returns a list of some operations of each object, in any order, with any results.
func someLists(random *rand.Rand, things int, calls []api.Call) [][]api.Step {
	w := make([][]api.Step, things)
	sorted := random.IntN(3) > 0
	for i, c := range calls {
		if random.IntN(4) > 0 {
			at := len(w[c.Thing])
			if !sorted || random.IntN(4) == 0 {
				at = random.IntN(at + 1)
			}
			w[c.Thing] = slices.Insert(w[c.Thing], at, step(i, random.IntN(5)-2))
		}
	}
	return w
}

// P6.2: any lists for histories of up to six operations.
func TestSomeJoins(t *testing.T) {
	random := rand.New(rand.NewPCG(6, 2))
	right, wrong := 0, 0
	for range 3000 {
		types, l, calls := small(random, 2+random.IntN(5), 6)
		w := someLists(random, len(types), calls)
		if joined, is := naiveJoin(calls, w); is {
			wantJoin(t, types, l, w, joined...)
			right++
		} else {
			wantApart(t, types, l, w)
			wrong++
		}
	}
	if right < 1000 || wrong < 300 {
		t.Errorf("lists are joined %d times, and not %d times", right, wrong)
	}
}

// P6.2: Join returns true for the lists of Orders, and their order is a linearization.
func TestOrdersJoin(t *testing.T) {
	random := rand.New(rand.NewPCG(6, 3))
	right := 0
	for range 4000 {
		types, l, calls := small(random, 1+random.IntN(12), api.MaxCalls)
		orders, e := Orders(types, l)
		if e != api.OK {
			continue
		}
		right++
		joined, is, e := Join(types, l, orders)
		if !is || e != api.OK {
			t.Errorf("Join(%v, %v, %v) = %v, %v, %d", types, l, orders, joined, is, e)
		}
		if len(calls) > api.MaxCalls {
			continue
		}
		if is, e := search.Right(types, l, joined); !is || e != api.OK {
			t.Errorf("Join(%v, %v, %v) = %v: this is no linearization", types, l, orders, joined)
		}
	}
	if right < 2000 {
		t.Errorf("%d histories of 4000 have linearizations of all parts", right)
	}
}

// P6.1: a history is linearizable if and only if the history of each object is.
func TestLocality(t *testing.T) {
	random := rand.New(rand.NewPCG(6, 4))
	counts := map[bool]int{}
	for range 3000 {
		types, l, _ := small(random, 1+random.IntN(9), api.MaxCalls)
		_, want, _ := search.Find(types, l)
		parts, e := Parts(types, l)
		if is := !slices.Contains(parts, false); is != want || e != api.OK {
			t.Errorf("Parts(%v, %v) = %v, %d; want true for all: %v", types, l, parts, e, want)
		}
		counts[want]++
	}
	if counts[true] < 1000 || counts[false] < 300 {
		t.Error(counts)
	}
}
