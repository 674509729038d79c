package bags

import (
	"math/rand/v2"
	"slices"
	"testing"

	"alibi/api"
	"alibi/search"
)

// naivePart returns the events of an element, by what each process called last.
func naivePart(l []api.Event, n int) []api.Event {
	var last [api.MaxWho]int
	var part []api.Event
	for _, event := range l {
		if event.Kind != api.KEnd {
			last[event.Who] = event.Value
		}
		if last[event.Who] == n {
			part = append(part, event)
		}
	}
	return part
}

// A world is one way in which the operations may have taken effect so far.
type world struct {
	in      [2]uint64        // the elements in the set, which are less than 128
	effects [api.MaxWho]int8 // 1 more than the result of the operation of each process, or 0 before it takes effect
}

// perform lets the operation of a process take effect.
func (w world) perform(c api.Event) world {
	in, bit := &w.in[c.Value/64], uint64(1)<<(c.Value%64)
	found := *in&bit != 0
	w.effects[c.Who] = 1
	if found == (c.Kind != api.KAdd) {
		w.effects[c.Who] = 2
	}
	switch c.Kind {
	case api.KAdd:
		*in |= bit
	case api.KRemove:
		*in &^= bit
	}
	return w
}

// spread adds all worlds in which more of the pending operations have taken effect.
func spread(worlds map[world]bool, pending [api.MaxWho]api.Event) map[world]bool {
	all := map[world]bool{}
	var visit func(w world)
	visit = func(w world) {
		if all[w] {
			return
		}
		all[w] = true
		for who, c := range pending {
			if c.Kind != api.KEnd && w.effects[who] == 0 {
				visit(w.perform(c))
			}
		}
	}
	for w := range worlds {
		visit(w)
	}
	return all
}

// naiveLinearizable reports whether each operation can take effect between its
// two events, by all worlds after each event, of a set with any number of elements.
func naiveLinearizable(l []api.Event) bool {
	worlds := map[world]bool{{}: true}
	var pending [api.MaxWho]api.Event
	for _, event := range l {
		pending[event.Who] = event
		if event.Kind != api.KEnd {
			worlds = spread(worlds, pending)
			continue
		}
		next := map[world]bool{}
		for w := range worlds {
			if w.effects[event.Who] == int8(event.Value)+1 {
				w.effects[event.Who] = 0
				next[w] = true
			}
		}
		worlds = next
	}
	return len(worlds) > 0
}

// naiveBad returns the elements below a limit whose part is not linearizable.
func naiveBad(l []api.Event, limit int) []int {
	var bad []int
	for n := 1; n < limit; n++ {
		if !naiveLinearizable(naivePart(l, n)) {
			bad = append(bad, n)
		}
	}
	return bad
}

// compare compares both functions with naive ones, for elements below a limit,
// and returns the elements whose part is not linearizable.
func compare(t *testing.T, l []api.Event, limit int) []int {
	t.Helper()
	for n := 1; n < limit; n++ {
		wantPart(t, l, n, naivePart(l, n)...)
	}
	bad := naiveBad(l, limit)
	wantBad(t, l, bad...)
	return bad
}

// compareWhole checks that the history is linearizable if and only if Check finds no element.
func compareWhole(t *testing.T, l []api.Event) {
	t.Helper()
	bad, e := Check(l)
	if want := naiveLinearizable(l); (len(bad) == 0) != want || e != api.OK {
		t.Errorf("Check(%v) = %v, %d; linearizable: %v", l, bad, e, want)
	}
}

// compareFind does the same for a history of up to nine operations, by the search.
func compareFind(t *testing.T, l []api.Event) {
	t.Helper()
	bad, e := Check(l)
	if _, want, f := search.Find([]int{api.TSet}, l); (len(bad) == 0) != want || e != api.OK || f != api.OK {
		t.Errorf("Check(%v) = %v, %d; search.Find: %v, %d", l, bad, e, want, f)
	}
}

// everyHistory visits all histories of at most so many more events, of elements
// up to a number. The processes are interchangeable: the first one without an
// operation calls.
func everyHistory(busy []bool, events, elements int, l []api.Event, visit func([]api.Event)) {
	visit(l)
	if events == 0 {
		return
	}
	follow := func(event api.Event) {
		next := slices.Clone(busy)
		next[event.Who] = event.Kind != api.KEnd
		everyHistory(next, events-1, elements, append(l[:len(l):len(l)], event), visit)
	}
	if first := slices.Index(busy, false); first != -1 {
		for n := 1; n <= elements; n++ {
			for _, kind := range kinds {
				follow(call(first, kind, n))
			}
		}
	}
	for who, is := range busy {
		if is {
			follow(end(who, 0))
			follow(end(who, 1))
		}
	}
}

// P10.1, P10.2: all histories of a few events of up to three processes and up to two elements.
func TestAllSmall(t *testing.T) {
	counts := map[int]int{}
	for _, c := range []struct{ events, whos, elements int }{{8, 2, 1}, {6, 3, 1}, {6, 2, 2}, {5, 3, 2}} {
		everyHistory(make([]bool, c.whos), c.events, c.elements, nil, func(l []api.Event) {
			counts[len(compare(t, l, c.elements+2))]++
			compareWhole(t, l)
			compareFind(t, l)
		})
	}
	for n := range 3 {
		if counts[n] < 100 {
			t.Errorf("%d histories have %d bad elements", counts[n], n)
		}
	}
}

// A plan says which histories simulate returns.
type plan struct {
	operations int // at most
	whos       int
	elements   int
	lies       int // of so many responses, about one is the other one; none if it is 0
}

// simulate returns a history of which each operation takes effect between its
// two events, or lies. No element has more than nine operations.
func simulate(random *rand.Rand, p plan) []api.Event {
	var w world
	var busy [api.MaxWho]bool
	var pending [api.MaxWho]api.Event
	counts := map[int]int{}
	var l []api.Event
	for range 4 * p.operations {
		who := random.IntN(p.whos)
		n := 1 + random.IntN(p.elements)
		switch {
		case !busy[who] && p.operations > 0 && counts[n] < api.MaxCalls:
			p.operations--
			counts[n]++
			busy[who] = true
			pending[who] = call(who, kinds[random.IntN(3)], n)
			l = append(l, pending[who])
		case busy[who] && w.effects[who] == 0:
			w = w.perform(pending[who])
		case busy[who]:
			result := int(w.effects[who]) - 1
			if p.lies > 0 && random.IntN(p.lies) == 0 {
				result = 1 - result
			}
			l = append(l, end(who, result))
			busy[who], w.effects[who] = false, 0
		}
	}
	return l
}

// P10.1, P10.2: histories of up to nine operations of up to six processes, also against the search.
func TestSomeLarger(t *testing.T) {
	random := rand.New(rand.NewPCG(10, 1))
	counts := map[int]int{}
	for range 5000 {
		p := plan{operations: 3 + random.IntN(7), whos: 1 + random.IntN(6), elements: 1 + random.IntN(4), lies: random.IntN(6)}
		l := simulate(random, p)
		counts[len(compare(t, l, 6))]++
		compareWhole(t, l)
		compareFind(t, l)
	}
	for n := range 3 {
		if counts[n] < 100 {
			t.Errorf("%d histories have %d bad elements", counts[n], n)
		}
	}
}

// P10.1, P10.2: histories of up to 100 operations are linearizable, if no response
// lies; and if some do, they are if and only if the part of each element is.
func TestLarge(t *testing.T) {
	random := rand.New(rand.NewPCG(10, 2))
	counts := map[bool]int{}
	for range 300 {
		p := plan{operations: 20 + random.IntN(81), whos: 1 + random.IntN(4), elements: 12 + random.IntN(80)}
		wantBad(t, simulate(random, p))
		p.lies = 20 + random.IntN(200)
		l := simulate(random, p)
		counts[len(compare(t, l, 93)) == 0]++
		compareWhole(t, l)
	}
	if counts[true] < 50 || counts[false] < 50 {
		t.Error(counts)
	}
}

// P10.2: which histories are too large.
func TestSomeTooLarge(t *testing.T) {
	random := rand.New(rand.NewPCG(10, 3))
	counts := map[api.Errno]int{}
	for range 3000 {
		var l []api.Event
		var most int
		times := map[int]int{}
		for range 5 + random.IntN(40) {
			n := 1 + random.IntN(4)
			l = append(l, call(0, kinds[random.IntN(3)], n), end(0, random.IntN(2)))
			times[n]++
			most = max(most, times[n])
		}
		want := api.OK
		if most > 9 {
			want = api.ErrLarge
		}
		if _, e := Check(l); e != want {
			t.Errorf("Check(%v): %d; want %d", l, e, want)
		}
		counts[want]++
	}
	if counts[api.OK] < 100 || counts[api.ErrLarge] < 100 {
		t.Error(counts)
	}
}
