package history

import (
	"math/rand/v2"
	"slices"
	"testing"

	"alibi/api"
)

// latest returns the index of the last event of the process before the given one; -1 if there is none.
func latest(l []api.Event, before, who int) int {
	for i := before - 1; i >= 0; i-- {
		if l[i].Who == who {
			return i
		}
	}
	return -1
}

// judge returns the error of one event after the events before it, which are valid.
func judge(types []int, l []api.Event, at int) api.Errno {
	event := l[at]
	if event.Who < 0 || event.Who > 7 || event.Thing < 0 || event.Thing >= len(types) {
		return api.ErrForm
	}
	last := latest(l, at, event.Who)
	waits := last >= 0 && l[last].Kind != api.KEnd
	if event.Kind == api.KEnd && !waits {
		return api.ErrNone
	}
	for _, r := range ranges {
		value := event.Value
		if event.Kind == api.KEnd && r.kind == l[last].Kind {
			gap := r.leastRes == -1 && value == 0
			if event.Thing == l[last].Thing && r.leastRes <= value && value <= r.mostRes && !gap {
				return api.OK
			}
		}
		if r.kind == event.Kind && r.typ == types[event.Thing] && r.leastArg <= value && value <= r.mostArg {
			if waits {
				return api.ErrTwice
			}
			return api.OK
		}
	}
	return api.ErrForm
}

// naiveCalls judges each event by itself, and looks for the response of each invocation.
func naiveCalls(types []int, l []api.Event) ([]api.Call, int, api.Errno) {
	for at := range l {
		if e := judge(types, l, at); e != api.OK {
			return nil, at, e
		}
	}
	var calls []api.Call
	for from, event := range l {
		if event.Kind == api.KEnd {
			continue
		}
		c := api.Call{Who: event.Who, Thing: event.Thing, Kind: event.Kind, Arg: event.Value, From: from, To: -1}
		for to := len(l) - 1; to > from; to-- {
			if l[to].Who == event.Who {
				c.Res, c.To = l[to].Value, to
			}
		}
		calls = append(calls, c)
	}
	return calls, 0, api.OK
}

// naiveAhead looks for a response of the first operation before the invocation of the second one.
func naiveAhead(l []api.Event, calls []api.Call) api.Rel {
	r := api.Rel{N: len(calls)}
	for i, first := range calls {
		for j, second := range calls {
			for at := first.From + 1; at < second.From; at++ {
				if l[at].Who == first.Who && l[at].Kind == api.KEnd {
					r.After[i] |= 1 << j
				}
			}
		}
	}
	return r
}

// compare checks all functions on a list of events, and reports whether it is a history.
func compare(t *testing.T, types []int, l []api.Event) bool {
	t.Helper()
	calls, at, e := naiveCalls(types, l)
	if e != api.OK {
		wantError(t, types, l, at, e)
		return false
	}
	wantCalls(t, types, l, calls...)
	wantEvents(t, calls, l, api.OK)
	for thing := range types {
		var part []api.Event
		for _, event := range l {
			if event.Thing == thing {
				part = append(part, event)
			}
		}
		wantPart(t, types, l, thing, part, api.OK)
		// What remains of a history is a history.
		if _, _, e := naiveCalls(types, part); e != api.OK {
			t.Errorf("%v of %v", part, l)
		}
	}
	few := calls[:min(len(calls), api.MaxItems)]
	want := naiveAhead(l, few)
	wantAhead(t, few, want.After[:]...)
	return true
}

// everyHistory visits all histories of at most n events, and compares all of them and those with an invalid event at the end.
func everyHistory(t *testing.T, types []int, n int, alphabet, l []api.Event, visit func([]api.Event)) {
	if !compare(t, types, l) {
		return
	}
	visit(l)
	if len(l) < n {
		for _, event := range alphabet {
			everyHistory(t, types, n, alphabet, append(l[:len(l):len(l)], event), visit)
		}
	}
}

// events returns all events of two processes at two objects, with the given kinds and small values.
func events(kinds ...int) []api.Event {
	var l []api.Event
	for who := range 2 {
		for thing := range 2 {
			for _, kind := range kinds {
				for value := -1; value <= 1; value++ {
					l = append(l, api.Event{Who: who, Thing: thing, Kind: kind, Value: value})
				}
			}
		}
	}
	return l
}

// operations returns all operations of two processes at two objects, with the given kinds, small values, and indices of four events.
func operations(kinds ...int) []api.Call {
	var l []api.Call
	for _, event := range events(kinds...) {
		if event.Value < 0 {
			continue
		}
		for res := -1; res <= 1; res++ {
			for from := range 4 {
				for to := -1; to < 4; to++ {
					l = append(l, api.Call{
						Who: event.Who, Thing: event.Thing, Kind: event.Kind, Arg: event.Value, Res: res, From: from, To: to,
					})
				}
			}
		}
	}
	return l
}

// P3.1 to P3.3: all histories of up to four events, and Events for all lists of up to two operations.
func TestAllSmall(t *testing.T) {
	kinds := []int{api.KEnq, api.KDeq, api.KAdd}
	histories := map[[2]api.Call][]api.Event{}
	for _, types := range [][]int{{2, 2}, {2, 4}, {4, 2}, {4, 4}} {
		everyHistory(t, types, 4, events(append(kinds, api.KEnd)...), nil, func(l []api.Event) {
			calls, _, _ := naiveCalls(types, l)
			if len(calls) <= 2 {
				var key [2]api.Call
				copy(key[:], calls)
				histories[key] = l
			}
		})
	}
	want := func(l ...api.Call) {
		var key [2]api.Call
		copy(key[:], l)
		if history, ok := histories[key]; ok {
			wantEvents(t, l, history, api.OK)
		} else {
			wantEvents(t, l, nil, api.ErrForm)
		}
	}
	l := operations(kinds...)
	for _, first := range l {
		want(first)
		for _, second := range l {
			want(first, second)
		}
	}
}

// grow appends an event: a valid one, but for one of many that is not.
func grow(random *rand.Rand, types []int, l []api.Event) []api.Event {
	for {
		who := random.IntN(api.MaxWho)
		r := ranges[random.IntN(len(ranges))]
		event := call(who, random.IntN(len(types)), r.kind, r.leastArg+random.IntN(r.mostArg-r.leastArg+1))
		if random.IntN(2) == 0 {
			event = end(who, event.Thing, r.leastRes+random.IntN(r.mostRes-r.leastRes+1))
		}
		longer := append(l, event)
		if judge(types, longer, len(l)) == api.OK || random.IntN(4000) == 0 {
			return longer
		}
	}
}

// P3.1 to P3.3: histories of up to 200 events, some with an invalid one.
func TestSomeLarger(t *testing.T) {
	random := rand.New(rand.NewPCG(5, 6))
	valid := 0
	for range 1000 {
		types := make([]int, 1+random.IntN(api.MaxThings))
		for i := range types {
			types[i] = 1 + random.IntN(api.TTicket)
		}
		var l []api.Event
		for range random.IntN(api.MaxEvents + 1) {
			l = grow(random, types, l)
		}
		if compare(t, types, l) {
			valid++
		}
	}
	if valid < 100 || valid > 900 {
		t.Errorf("%d histories of 1000 are valid", valid)
	}
}

// P3.2: a history with one number changed is a history or not, as Events finds.
func TestSomeChanged(t *testing.T) {
	random := rand.New(rand.NewPCG(7, 8))
	types := []int{api.TQueue, api.TReg}
	found := 0
	for range 20_000 {
		var l []api.Event
		for range 12 {
			l = grow(random, types, l)
		}
		calls, _, e := naiveCalls(types, l)
		if e != api.OK {
			continue
		}
		c := &calls[random.IntN(len(calls))]
		number := []*int{&c.Who, &c.Thing, &c.Kind, &c.Arg, &c.Res, &c.From, &c.To}[random.IntN(7)]
		*number += 1 - 2*random.IntN(2)
		x, e := Events(calls)
		if e != api.OK {
			wantEvents(t, calls, nil, api.ErrForm)
			continue
		}
		found++
		again, _, e := naiveCalls(typesFor(calls), x)
		if !slices.Equal(again, calls) || e != api.OK {
			t.Errorf("%v leads to %v, %d", calls, again, e)
		}
	}
	if found == 0 {
		t.Error("no change leads to a history")
	}
}
