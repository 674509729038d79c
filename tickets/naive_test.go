package tickets

import (
	"math/rand/v2"
	"slices"
	"testing"

	"alibi/api"
	"alibi/history"
	"alibi/search"
)

// counter are the types of a history of this chapter.
var counter = []int{api.TTicket}

// kinds are what Check may find.
var kinds = []int{api.BadNone, api.BadTwice, api.BadOrder, api.BadGap}

// A suspect knows whether A and B, which are operations or numbers, are a violation.
type suspect func(calls []api.Call, a, b int) bool

// ended reports whether both operations exist and have responses.
func ended(calls []api.Call, a, b int) bool {
	return max(a, b) < len(calls) && calls[a].To != -1 && calls[b].To != -1
}

func twiceIs(calls []api.Call, a, b int) bool {
	return b < a && ended(calls, a, b) && calls[a].Res == calls[b].Res
}

func orderIs(calls []api.Call, a, b int) bool {
	return ended(calls, a, b) && calls[a].To < calls[b].From && calls[a].Res > calls[b].Res
}

// gapIs takes the document at its word, number by number.
func gapIs(calls []api.Call, a, b int) bool {
	if b != 0 {
		return false
	}
	is := func(number int) bool {
		return slices.ContainsFunc(calls, func(c api.Call) bool { return c.To != -1 && c.Res == number })
	}
	if is(a) || !slices.ContainsFunc(calls, func(c api.Call) bool { return c.To != -1 && c.Res > a }) {
		return false
	}
	place := 0
	for number := range a {
		if !is(number) {
			place++
		}
	}
	pending := slices.DeleteFunc(slices.Clone(calls), func(c api.Call) bool { return c.To != -1 })
	if place >= len(pending) {
		return true
	}
	return slices.ContainsFunc(calls, func(c api.Call) bool {
		return c.To != -1 && c.To < pending[place].From && !(c.Res < a)
	})
}

// naiveBad returns the first violation, of operations and numbers below a limit.
func naiveBad(calls []api.Call, limit int) api.Bad {
	for _, s := range []struct {
		kind int
		is   suspect
	}{{api.BadTwice, twiceIs}, {api.BadOrder, orderIs}, {api.BadGap, gapIs}} {
		for a := range limit {
			for b := range limit {
				if s.is(calls, a, b) {
					return api.Bad{Kind: s.kind, A: a, B: b}
				}
			}
		}
	}
	return api.Bad{}
}

// A world is one way in which the operations may have taken effect so far.
type world struct {
	next    int             // the number of operations that have
	numbers [api.MaxWho]int // 1 more than the number of the operation of each process, or 0 before it takes effect
}

// spread adds all worlds in which more of the pending operations have taken effect.
func spread(worlds map[world]bool, busy [api.MaxWho]bool) map[world]bool {
	all := map[world]bool{}
	var visit func(w world)
	visit = func(w world) {
		if all[w] {
			return
		}
		all[w] = true
		w.next++
		for who, is := range busy {
			if is && w.numbers[who] == 0 {
				more := w
				more.numbers[who] = w.next
				visit(more)
			}
		}
	}
	for w := range worlds {
		visit(w)
	}
	return all
}

// naiveLinearizable reports whether each operation can take effect between its
// two events, by all worlds after each event.
func naiveLinearizable(l []api.Event) bool {
	worlds := map[world]bool{{}: true}
	var busy [api.MaxWho]bool
	for _, event := range l {
		busy[event.Who] = event.Kind != api.KEnd
		if busy[event.Who] {
			worlds = spread(worlds, busy)
			continue
		}
		next := map[world]bool{}
		for w := range worlds {
			if w.numbers[event.Who] == event.Value+1 {
				w.numbers[event.Who] = 0
				next[w] = true
			}
		}
		worlds = next
	}
	return len(worlds) > 0
}

// naiveRight reports whether the steps are a linearization that ends with an
// operation with a response, whatever the size of the history is.
func naiveRight(calls []api.Call, w []api.Step) bool {
	done := make([]bool, len(calls))
	for number, step := range w {
		c := calls[step.Call]
		if done[step.Call] || step.Res != number || c.To != -1 && c.Res != number {
			return false
		}
		for i, other := range calls {
			if other.To != -1 && other.To < c.From && !done[i] {
				return false
			}
		}
		done[step.Call] = true
	}
	for i, c := range calls {
		if c.To != -1 && !done[i] {
			return false
		}
	}
	return len(w) == 0 || calls[w[len(w)-1].Call].To != -1
}

// increasing reports whether the operations without a response are in order.
func increasing(calls []api.Call, w []api.Step) bool {
	last := -1
	for _, step := range w {
		if calls[step.Call].To == -1 {
			if step.Call < last {
				return false
			}
			last = step.Call
		}
	}
	return true
}

// compare compares both functions with naive ones, for operations and numbers
// below a limit, and returns the violation.
func compare(t *testing.T, l []api.Event, limit int) api.Bad {
	t.Helper()
	calls, _, e := history.Calls(counter, l)
	if e != api.OK {
		t.Fatal(l, e)
	}
	bad := naiveBad(calls, limit)
	if bad != (api.Bad{}) {
		wantBad(t, l, bad.Kind, bad.A, bad.B)
		return bad
	}
	if is, bad, e := Check(l); !is || bad != (api.Bad{}) || e != api.OK {
		t.Errorf("Check(%v) = %v, %v, %d; want true, {0 0 0}, 0", l, is, bad, e)
	}
	if w, e := Order(l); !naiveRight(calls, w) || !increasing(calls, w) || e != api.OK {
		t.Errorf("Order(%v) = %v, %d; not a linearization", l, w, e)
	}
	return bad
}

// compareWorlds checks that Check finds no violation if and only if the history is linearizable.
func compareWorlds(t *testing.T, l []api.Event) {
	t.Helper()
	is, _, e := Check(l)
	if want := naiveLinearizable(l); is != want || e != api.OK {
		t.Errorf("Check(%v): %v, %d; linearizable: %v", l, is, e, want)
	}
}

// compareSearch does the same for a history of up to nine operations, by the
// search, which also checks what Order returns.
func compareSearch(t *testing.T, l []api.Event) {
	t.Helper()
	is, _, _ := Check(l)
	if _, want, e := search.Find(counter, l); is != want || e != api.OK {
		t.Errorf("Check(%v): %v; search.Find: %v, %d", l, is, want, e)
	}
	if w, _ := Order(l); is {
		if right, e := search.Right(counter, l, w); !right || e != api.OK {
			t.Errorf("Order(%v) = %v; search.Right: %v, %d", l, w, right, e)
		}
	}
}

// wantCounts checks that there were enough histories with each violation, and without any.
func wantCounts(t *testing.T, counts map[int]int, least int) {
	t.Helper()
	for _, kind := range kinds {
		if counts[kind] < least {
			t.Errorf("%d histories have violations of kind %d", counts[kind], kind)
		}
	}
}

// everyHistory visits all histories of at most so many more events, with
// results up to a number. The processes are interchangeable: the first one
// without an operation calls.
func everyHistory(busy []bool, events, most int, l []api.Event, visit func([]api.Event)) {
	visit(l)
	if events == 0 {
		return
	}
	follow := func(event api.Event) {
		next := slices.Clone(busy)
		next[event.Who] = event.Kind != api.KEnd
		everyHistory(next, events-1, most, append(l[:len(l):len(l)], event), visit)
	}
	if first := slices.Index(busy, false); first != -1 {
		follow(take(first))
	}
	for who, is := range busy {
		for number := 0; is && number <= most; number++ {
			follow(end(who, number))
		}
	}
}

// P11.1, P11.2: all histories of a few events of up to five processes, against the search.
func TestAllSmall(t *testing.T) {
	counts := map[int]int{}
	for _, c := range []struct{ events, whos, most int }{{8, 2, 3}, {8, 3, 2}, {7, 4, 3}, {7, 5, 4}} {
		everyHistory(make([]bool, c.whos), c.events, c.most, nil, func(l []api.Event) {
			counts[compare(t, l, 9).Kind]++
			compareWorlds(t, l)
			compareSearch(t, l)
		})
	}
	wantCounts(t, counts, 100)
}

// A plan says which histories simulate returns.
type plan struct {
	operations int // at most
	whos       int
	stuck      int // of so many operations, about one never responds; none if it is 0
	lies       int // of so many responses, about one is another number; none if it is 0
}

// simulate returns a history of which each operation takes effect between its two events, or lies.
func simulate(random *rand.Rand, p plan) []api.Event {
	var w world
	var busy, stuck [api.MaxWho]bool
	var l []api.Event
	for range 4 * p.operations {
		who := random.IntN(p.whos)
		switch {
		case !busy[who] && p.operations > 0:
			p.operations--
			busy[who] = true
			stuck[who] = p.stuck > 0 && random.IntN(p.stuck) == 0
			l = append(l, take(who))
		case busy[who] && w.numbers[who] == 0:
			w.next++
			w.numbers[who] = w.next
		case busy[who] && !stuck[who]:
			number := w.numbers[who] - 1
			if p.lies > 0 && random.IntN(p.lies) == 0 {
				number = max(0, number-2+random.IntN(5))
			}
			l = append(l, end(who, number))
			busy[who], w.numbers[who] = false, 0
		}
	}
	return l
}

// swap exchanges the results of two operations of a history, if it has any.
func swap(random *rand.Rand, l []api.Event) {
	calls, _, _ := history.Calls(counter, l)
	calls = slices.DeleteFunc(calls, func(c api.Call) bool { return c.To == -1 })
	if len(calls) > 0 {
		i := random.IntN(len(calls))
		a, b := calls[i], calls[min(len(calls)-1, i+random.IntN(4))]
		l[a.To].Value, l[b.To].Value = b.Res, a.Res
	}
}

// drop removes one operation with a response from a history, if it has any.
func drop(random *rand.Rand, l []api.Event) []api.Event {
	calls, _, _ := history.Calls(counter, l)
	calls = slices.DeleteFunc(calls, func(c api.Call) bool { return c.To == -1 })
	if len(calls) == 0 {
		return l
	}
	c := calls[random.IntN(len(calls))]
	return slices.Concat(l[:c.From], l[c.From+1:c.To], l[c.To+1:])
}

// P11.1, P11.2: histories of up to nine operations, against the search.
func TestSomeLarger(t *testing.T) {
	random := rand.New(rand.NewPCG(11, 1))
	counts := map[int]int{}
	for range 5000 {
		p := plan{operations: 3 + random.IntN(7), whos: 1 + random.IntN(6), stuck: random.IntN(5), lies: random.IntN(8)}
		l := simulate(random, p)
		for range random.IntN(3) {
			swap(random, l)
		}
		counts[compare(t, l, 14).Kind]++
		compareWorlds(t, l)
		compareSearch(t, l)
	}
	wantCounts(t, counts, 100)
}

// P11.1, P11.2: histories of up to 100 operations are linearizable, if no
// response lies; and if some do, they are if and only if Check finds no violation.
func TestLarge(t *testing.T) {
	random := rand.New(rand.NewPCG(11, 2))
	counts := map[int]int{}
	for range 600 {
		p := plan{operations: 20 + random.IntN(81), whos: 1 + random.IntN(5), stuck: 10 * random.IntN(3)}
		l := simulate(random, p)
		if bad := compare(t, l, 105); bad != (api.Bad{}) {
			t.Errorf("Check(%v): %v; want none", l, bad)
		}
		switch random.IntN(3) {
		case 0:
			swap(random, l)
		case 1:
			l = drop(random, l)
		default:
			p.lies = 20 + random.IntN(200)
			l = simulate(random, p)
		}
		counts[compare(t, l, 105).Kind]++
		compareWorlds(t, l)
	}
	wantCounts(t, counts, 30)
}
