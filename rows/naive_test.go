package rows

import (
	"math/rand/v2"
	"slices"
	"testing"

	"alibi/api"
	"alibi/history"
	"alibi/search"
)

// queue are the types of a history of this chapter.
var queue = []int{api.TQueue}

// kinds are what Check may find.
var kinds = []int{api.BadNone, api.BadStray, api.BadTwice, api.BadEarly, api.BadOrder, api.BadEmpty}

// enqueueOf returns the index of the enqueue of a value, or -1.
func enqueueOf(calls []api.Call, value int) int {
	return slices.IndexFunc(calls, func(c api.Call) bool { return c.Kind == api.KEnq && c.Arg == value })
}

// dequeueOf returns the index of the first dequeue of a value, or -1.
func dequeueOf(calls []api.Call, value int) int {
	return slices.IndexFunc(calls, func(c api.Call) bool { return c.Kind == api.KDeq && c.Res == value })
}

// naiveStay returns the interval of a value, and whether it is not omitted.
func naiveStay(calls []api.Call, value int) (api.Span, bool) {
	enqueue := enqueueOf(calls, value)
	if enqueue == -1 || calls[enqueue].To == -1 {
		return api.Span{}, false
	}
	stay := api.Span{From: calls[enqueue].To, To: api.MaxEvents - 1}
	if dequeue := dequeueOf(calls, value); dequeue != -1 {
		stay.To = calls[dequeue].From - 1
	}
	return stay, stay.To >= stay.From
}

// naiveStays takes the document at its word, for the values below a limit.
func naiveStays(calls []api.Call, limit int) []api.Span {
	var stays []api.Span
	for value := 1; value < limit; value++ {
		if stay, ok := naiveStay(calls, value); ok {
			stays = append(stays, stay)
		}
	}
	return stays
}

// A suspect knows whether A and B, which are operations or values, are a violation.
type suspect func(calls []api.Call, stays []api.Span, a, b int) bool

// takesValue reports whether there is such an operation, and it is a dequeue of a value.
func takesValue(calls []api.Call, i int) bool {
	return i < len(calls) && calls[i].Kind == api.KDeq && calls[i].Res != -1
}

func strayIs(calls []api.Call, _ []api.Span, a, b int) bool {
	return b == 0 && takesValue(calls, a) && enqueueOf(calls, calls[a].Res) == -1
}

func twiceIs(calls []api.Call, _ []api.Span, a, b int) bool {
	return takesValue(calls, a) && b < a && b == dequeueOf(calls, calls[a].Res)
}

func earlyIs(calls []api.Call, _ []api.Span, a, b int) bool {
	return takesValue(calls, a) && b == enqueueOf(calls, calls[a].Res) && calls[a].To < calls[b].From
}

func orderIs(calls []api.Call, _ []api.Span, a, b int) bool {
	x, y := enqueueOf(calls, a), enqueueOf(calls, b)
	if a == 0 || b == 0 || x == -1 || y == -1 || calls[x].To == -1 || calls[x].To >= calls[y].From {
		return false
	}
	v, w := dequeueOf(calls, a), dequeueOf(calls, b)
	return w != -1 && (v == -1 || calls[w].To < calls[v].From)
}

func emptyIs(calls []api.Call, stays []api.Span, a, b int) bool {
	if b != 0 || a >= len(calls) || calls[a].Kind != api.KDeq || calls[a].Res != -1 {
		return false
	}
	for at := calls[a].From; at <= calls[a].To-1; at++ {
		if !slices.ContainsFunc(stays, func(s api.Span) bool { return s.From <= at && at <= s.To }) {
			return false
		}
	}
	return true
}

// naiveBad returns the first violation, of operations and values below a limit.
func naiveBad(calls []api.Call, limit int) api.Bad {
	stays := naiveStays(calls, limit)
	for _, s := range []struct {
		kind int
		is   suspect
	}{
		{api.BadStray, strayIs}, {api.BadTwice, twiceIs}, {api.BadEarly, earlyIs},
		{api.BadOrder, orderIs}, {api.BadEmpty, emptyIs},
	} {
		for a := range limit {
			for b := range limit {
				if s.is(calls, stays, a, b) {
					return api.Bad{Kind: s.kind, A: a, B: b}
				}
			}
		}
	}
	return api.Bad{}
}

// compare compares both functions with naive ones, and returns the violation.
func compare(t *testing.T, l []api.Event, limit int) api.Bad {
	t.Helper()
	calls, _, e := history.Calls(queue, l)
	if e != api.OK {
		t.Fatal(l, e)
	}
	wantStays(t, l, naiveStays(calls, limit)...)
	bad := naiveBad(calls, limit)
	if bad == (api.Bad{}) {
		wantGood(t, l)
	} else {
		wantBad(t, l, bad.Kind, bad.A, bad.B)
	}
	return bad
}

// compareFind compares Check with search.Find, for a history of up to nine operations.
func compareFind(t *testing.T, l []api.Event) {
	t.Helper()
	is, _, _ := Check(l)
	if _, want, e := search.Find(queue, l); is != want || e != api.OK {
		t.Errorf("Check(%v): %v; search.Find: %v, %d", l, is, want, e)
	}
}

// wantCounts checks that there were enough histories with each violation, and without any.
func wantCounts(t *testing.T, counts map[int]int, least int) {
	t.Helper()
	for _, kind := range kinds {
		if counts[kind] < least {
			t.Errorf("%d histories have violations of kind %d", counts[kind], kind)
		}
	}
}

// A caller is what one process does: nothing, or an operation, which has taken effect or not.
type caller struct {
	busy, done    bool
	enqueues      bool
	value, result int
}

// idle reports whether no process has to respond to a dequeue.
func idle(callers []caller) bool {
	return !slices.ContainsFunc(callers, func(c caller) bool { return c.busy && !c.enqueues })
}

// next returns the events that can follow, of processes that are interchangeable: the first one without an operation calls.
func next(callers []caller, values int, used []bool) []api.Event {
	var events []api.Event
	first := slices.IndexFunc(callers, func(c caller) bool { return !c.busy })
	if first != -1 {
		events = append(events, take(first))
		for value := 1; value <= values; value++ {
			if !used[value] {
				events = append(events, put(first, value))
			}
		}
	}
	for who, c := range callers {
		if c.busy && c.enqueues {
			events = append(events, end(who, 0))
		}
		if c.busy && !c.enqueues {
			events = append(events, end(who, -1))
			for value := 1; value <= values; value++ {
				events = append(events, end(who, value))
			}
		}
	}
	return events
}

// everyHistory visits all histories of at most n more events, of values up to a
// number, each enqueued at most once, in which every dequeue has a response.
func everyHistory(callers []caller, n, values int, used []bool, l []api.Event, visit func([]api.Event)) {
	if idle(callers) {
		visit(l)
	}
	if n == 0 {
		return
	}
	for _, event := range next(callers, values, used) {
		nowCallers, nowUsed := slices.Clone(callers), slices.Clone(used)
		enqueues := event.Kind == api.KEnq
		nowCallers[event.Who] = caller{busy: event.Kind != api.KEnd, enqueues: enqueues}
		if enqueues {
			nowUsed[event.Value] = true
		}
		everyHistory(nowCallers, n-1, values, nowUsed, append(l[:len(l):len(l)], event), visit)
	}
}

// P9.1, P9.2: all histories of a few events of up to three processes and up to three values, against the search.
func TestAllSmall(t *testing.T) {
	counts := map[int]int{}
	for _, c := range []struct{ events, whos, values int }{{9, 2, 2}, {8, 3, 2}, {7, 3, 3}} {
		everyHistory(make([]caller, c.whos), c.events, c.values, make([]bool, c.values+1), nil, func(l []api.Event) {
			counts[compare(t, l, 8).Kind]++
			compareFind(t, l)
		})
	}
	wantCounts(t, counts, 100)
}

// A plan says which histories simulate returns.
type plan struct {
	operations int // at most
	whos       int
	enqueues   int // of ten operations
	lies       int // of so many responses to dequeues, about one has another value; none if it is 0
}

// simulate returns a history of which each operation takes effect between its
// two events, on a queue of any number of elements.
func simulate(random *rand.Rand, p plan) []api.Event {
	values := random.Perm(p.operations)
	callers := make([]caller, p.whos)
	left := p.operations
	var l []api.Event
	var row []int
	for turn := 0; turn < 4*p.operations || !idle(callers); turn++ {
		who := random.IntN(p.whos)
		c := &callers[who]
		switch {
		case !c.busy && left > 0 && turn < 4*p.operations:
			left--
			*c = caller{busy: true, enqueues: random.IntN(10) < p.enqueues, value: values[left] + 1}
			if c.enqueues {
				l = append(l, put(who, c.value))
			} else {
				l = append(l, take(who))
			}
		case c.busy && !c.done && c.enqueues:
			c.done, row = true, append(row, c.value)
		case c.busy && !c.done && len(row) == 0:
			c.done, c.result = true, -1
		case c.busy && !c.done:
			c.done, c.result, row = true, row[0], row[1:]
		case c.busy:
			c.busy = false
			if !c.enqueues && p.lies > 0 && random.IntN(p.lies) == 0 {
				c.result = someValue(random, l, p.operations)
			}
			l = append(l, end(who, c.result))
		}
	}
	return l
}

// someValue returns a value: mostly -1 or one that is enqueued, but seldom any other.
func someValue(random *rand.Rand, l []api.Event, most int) int {
	if random.IntN(4) == 0 {
		return 1 + random.IntN(most)
	}
	values := []int{-1}
	for _, event := range l {
		if event.Kind == api.KEnq {
			values = append(values, event.Value)
		}
	}
	return values[random.IntN(len(values))]
}

// drop changes the result of one dequeue of a history to -1, if it has any.
func drop(random *rand.Rand, l []api.Event) {
	calls, _, _ := history.Calls(queue, l)
	dequeues := slices.DeleteFunc(calls, func(c api.Call) bool { return c.Kind != api.KDeq })
	if len(dequeues) > 0 {
		l[dequeues[random.IntN(len(dequeues))].To].Value = -1
	}
}

// swap exchanges the results of two dequeues of a history, if it has any.
func swap(random *rand.Rand, l []api.Event) {
	calls, _, _ := history.Calls(queue, l)
	dequeues := slices.DeleteFunc(calls, func(c api.Call) bool { return c.Kind != api.KDeq })
	if len(dequeues) > 0 {
		a, b := dequeues[random.IntN(len(dequeues))], dequeues[random.IntN(len(dequeues))]
		l[a.To].Value, l[b.To].Value = b.Res, a.Res
	}
}

// P9.1, P9.2: histories of up to nine operations, against the search.
func TestSomeLarger(t *testing.T) {
	random := rand.New(rand.NewPCG(9, 1))
	counts := map[int]int{}
	for range 20_000 {
		l := simulate(random, plan{
			operations: 3 + random.IntN(7),
			whos:       1 + random.IntN(6),
			enqueues:   3 + random.IntN(6),
			lies:       random.IntN(5),
		})
		for range random.IntN(3) {
			swap(random, l)
		}
		counts[compare(t, l, 12).Kind]++
		compareFind(t, l)
	}
	wantCounts(t, counts, 100)
}

// keep returns the events of the operations that are to stay.
func keep(l []api.Event, calls []api.Call, stays func(i int, c api.Call) bool) []api.Event {
	var kept []api.Event
	for at, event := range l {
		for i, c := range calls {
			if (c.From == at || c.To == at) && stays(i, c) {
				kept = append(kept, event)
			}
		}
	}
	return kept
}

// cover returns a few values whose stays cover a dequeue together.
func cover(calls []api.Call, dequeue api.Call, limit int) []int {
	var values []int
	for at := dequeue.From; at < dequeue.To; {
		best, last := 0, at-1
		for value := 1; value < limit; value++ {
			if stay, ok := naiveStay(calls, value); ok && stay.From <= at && stay.To > last {
				best, last = value, stay.To
			}
		}
		values = append(values, best)
		at = last + 1
	}
	return values
}

// proof returns the events of a few operations that have the violation.
func proof(l []api.Event, bad api.Bad, limit int) []api.Event {
	calls, _, _ := history.Calls(queue, l)
	var values []int
	switch bad.Kind {
	case api.BadTwice:
		values = []int{calls[bad.A].Res}
	case api.BadOrder:
		values = []int{bad.A, bad.B}
	case api.BadEmpty:
		values = cover(calls, calls[bad.A], limit)
	}
	named := bad.Kind != api.BadOrder
	pair := bad.Kind == api.BadTwice || bad.Kind == api.BadEarly
	return keep(l, calls, func(i int, c api.Call) bool {
		if named && i == bad.A || pair && i == bad.B {
			return true
		}
		if c.Kind == api.KEnq {
			return slices.Contains(values, c.Arg)
		}
		return slices.Contains(values, c.Res)
	})
}

// P9.2: histories of up to 100 operations are linearizable, if no dequeue lies. If
// one does, and there is a violation, then its few operations alone are not.
func TestLarge(t *testing.T) {
	random := rand.New(rand.NewPCG(9, 2))
	counts := map[int]int{}
	for range 1500 {
		p := plan{operations: 20 + random.IntN(81), whos: 1 + random.IntN(api.MaxWho), enqueues: 4 + random.IntN(4)}
		l := simulate(random, p)
		wantGood(t, l)
		switch random.IntN(3) {
		case 0:
			swap(random, l)
		case 1:
			drop(random, l)
		default:
			p.lies = 1 + random.IntN(100)
			l = simulate(random, p)
		}
		bad := compare(t, l, 101)
		if bad.Kind == api.BadNone {
			counts[bad.Kind]++
			continue
		}
		few := proof(l, bad, 101)
		_, is, e := search.Find(queue, few)
		if bad.Kind == api.BadEmpty && e == api.ErrLarge {
			// Too many values cover the dequeue for a search.
			continue
		}
		counts[bad.Kind]++
		if is || e != api.OK {
			t.Errorf("Check(%v): %v; search.Find(%v): %v, %d", l, bad, few, is, e)
		}
	}
	wantCounts(t, counts, 20)
}
