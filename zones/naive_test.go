package zones

import (
	"math/rand/v2"
	"slices"
	"testing"

	"alibi/api"
	"alibi/history"
	"alibi/search"
)

// register are the types of a history of this chapter.
var register = []int{api.TReg}

// isRead reports whether the operation is a read with a response.
func isRead(c api.Call) bool {
	return c.Kind == api.KRead && c.To != -1
}

// writeOf returns the index of the write of a value, or -1.
func writeOf(calls []api.Call, value int) int {
	return slices.IndexFunc(calls, func(c api.Call) bool { return c.Kind == api.KWrite && c.Arg == value })
}

// naiveZones takes the document at its word, for the values below a limit.
func naiveZones(calls []api.Call, limit int) []api.Zone {
	var zones []api.Zone
	for value := range limit {
		var froms, tos []int
		written, counts := value == 0, false
		if written {
			froms, tos = []int{-1}, []int{-1}
		}
		for _, c := range calls {
			writes := c.Kind == api.KWrite && c.Arg == value
			if !writes && (!isRead(c) || c.Res != value) {
				continue
			}
			written = written || writes
			counts = counts || c.To != -1
			froms = append(froms, c.From)
			if c.To != -1 {
				tos = append(tos, c.To)
			} else {
				tos = append(tos, api.MaxEvents)
			}
		}
		if written && counts {
			first, last := slices.Min(tos), slices.Max(froms)
			zones = append(zones, api.Zone{Value: value, First: first, Last: last, Forward: first < last})
		}
	}
	return zones
}

// A suspect knows whether A and B, which are operations or values, are a violation.
type suspect func(calls []api.Call, zones []api.Zone, a, b int) bool

func strayIs(calls []api.Call, _ []api.Zone, a, b int) bool {
	return b == 0 && a < len(calls) && isRead(calls[a]) && calls[a].Res != 0 && writeOf(calls, calls[a].Res) == -1
}

func earlyIs(calls []api.Call, _ []api.Zone, a, b int) bool {
	return a < len(calls) && b < len(calls) && isRead(calls[a]) &&
		b == writeOf(calls, calls[a].Res) && calls[a].To < calls[b].From
}

// pairOf returns the zones of two values, and whether there are both.
func pairOf(zones []api.Zone, a, b int) (api.Zone, api.Zone, bool) {
	i := slices.IndexFunc(zones, func(z api.Zone) bool { return z.Value == a })
	j := slices.IndexFunc(zones, func(z api.Zone) bool { return z.Value == b })
	if i == -1 || j == -1 {
		return api.Zone{}, api.Zone{}, false
	}
	return zones[i], zones[j], true
}

func crossIs(_ []api.Call, zones []api.Zone, a, b int) bool {
	y, z, ok := pairOf(zones, a, b)
	return ok && a < b && y.Forward && z.Forward && y.First < z.Last && z.First < y.Last
}

func insideIs(_ []api.Call, zones []api.Zone, a, b int) bool {
	y, z, ok := pairOf(zones, a, b)
	return ok && y.Forward && !z.Forward && y.First < z.Last && z.First < y.Last
}

// naiveBad returns the first violation, of operations and values below a limit.
func naiveBad(calls []api.Call, limit int) api.Bad {
	zones := naiveZones(calls, limit)
	for _, s := range []struct {
		kind int
		is   suspect
	}{{api.BadStray, strayIs}, {api.BadEarly, earlyIs}, {api.BadCross, crossIs}, {api.BadInside, insideIs}} {
		for a := range limit {
			for b := range limit {
				if s.is(calls, zones, a, b) {
					return api.Bad{Kind: s.kind, A: a, B: b}
				}
			}
		}
	}
	return api.Bad{}
}

// compare compares both functions with naive ones, and returns the violation.
func compare(t *testing.T, l []api.Event, limit int) api.Bad {
	t.Helper()
	calls, _, e := history.Calls(register, l)
	if e != api.OK {
		t.Fatal(l, e)
	}
	wantZones(t, l, naiveZones(calls, limit)...)
	bad := naiveBad(calls, limit)
	if bad == (api.Bad{}) {
		wantGood(t, l)
	} else {
		wantBad(t, l, bad.Kind, bad.A, bad.B)
	}
	return bad
}

// compareFind compares Check with search.Find, for a history of up to nine operations.
func compareFind(t *testing.T, l []api.Event) {
	t.Helper()
	is, _, _ := Check(l)
	if _, want, e := search.Find(register, l); is != want || e != api.OK {
		t.Errorf("Check(%v): %v; search.Find: %v, %d", l, is, want, e)
	}
}

// A caller is what one process does: nothing, or an operation, which has taken effect or not.
type caller struct {
	busy, done    bool
	writes        bool
	value, result int
}

// next returns the events that can follow, of processes that are interchangeable: the first one without an operation calls.
func next(callers []caller, values int, used []bool) []api.Event {
	var events []api.Event
	idle := slices.IndexFunc(callers, func(c caller) bool { return !c.busy })
	if idle != -1 {
		events = append(events, read(idle))
		for value := 1; value <= values; value++ {
			if !used[value] {
				events = append(events, write(idle, value))
			}
		}
	}
	for who, c := range callers {
		if c.busy && c.writes {
			events = append(events, end(who, 0))
		}
		for value := range values + 1 {
			if c.busy && !c.writes {
				events = append(events, end(who, value))
			}
		}
	}
	return events
}

// everyHistory visits all histories of at most n more events, of values up to a number, each written at most once.
func everyHistory(callers []caller, n, values int, used []bool, l []api.Event, visit func([]api.Event)) {
	visit(l)
	if n == 0 {
		return
	}
	for _, event := range next(callers, values, used) {
		nowCallers, nowUsed := slices.Clone(callers), slices.Clone(used)
		writes := event.Kind == api.KWrite
		nowCallers[event.Who] = caller{busy: event.Kind != api.KEnd, writes: writes}
		nowUsed[event.Value] = used[event.Value] || writes
		everyHistory(nowCallers, n-1, values, nowUsed, append(l[:len(l):len(l)], event), visit)
	}
}

// P8.1, P8.2: all histories of a few events of up to three processes and up to three values, against the search.
func TestAllSmall(t *testing.T) {
	counts := map[int]int{}
	for _, c := range []struct{ events, whos, values int }{{8, 2, 2}, {7, 3, 2}, {6, 3, 3}} {
		everyHistory(make([]caller, c.whos), c.events, c.values, make([]bool, c.values+1), nil, func(l []api.Event) {
			counts[compare(t, l, 8).Kind]++
			compareFind(t, l)
		})
	}
	for _, kind := range []int{api.BadNone, api.BadStray, api.BadEarly, api.BadCross, api.BadInside} {
		if counts[kind] < 100 {
			t.Errorf("%d histories have violations of kind %d", counts[kind], kind)
		}
	}
}

// A plan says which histories simulate returns.
type plan struct {
	operations int // at most
	whos       int
	writes     int // of so many operations, one is a write
	lies       int // of so many responses to reads, about one has another value; none if it is 0
}

// simulate returns a history of which each operation takes effect between its two events.
func simulate(random *rand.Rand, p plan) []api.Event {
	values := random.Perm(p.operations)
	callers := make([]caller, p.whos)
	state, left := 0, p.operations
	var l []api.Event
	for range 4 * p.operations {
		who := random.IntN(p.whos)
		c := &callers[who]
		switch {
		case !c.busy && left > 0:
			left--
			*c = caller{busy: true, writes: random.IntN(p.writes) == 0, value: values[left] + 1}
			if c.writes {
				l = append(l, write(who, c.value))
			} else {
				l = append(l, read(who))
			}
		case c.busy && !c.done && c.writes:
			c.done, state = true, c.value
		case c.busy && !c.done:
			c.done, c.result = true, state
		case c.busy:
			c.busy = false
			if !c.writes && p.lies > 0 && random.IntN(p.lies) == 0 {
				c.result = someValue(random, l, p.operations)
			}
			l = append(l, end(who, c.result))
		}
	}
	return l
}

// someValue returns a value: mostly 0 or one that is written, but seldom any other.
func someValue(random *rand.Rand, l []api.Event, most int) int {
	if random.IntN(8) == 0 {
		return random.IntN(most + 1)
	}
	values := []int{0}
	for _, event := range l {
		if event.Kind == api.KWrite {
			values = append(values, event.Value)
		}
	}
	return values[random.IntN(len(values))]
}

// P8.1, P8.2: histories of up to nine operations, against the search.
func TestSomeLarger(t *testing.T) {
	random := rand.New(rand.NewPCG(8, 1))
	counts := map[int]int{}
	for range 20_000 {
		l := simulate(random, plan{
			operations: 3 + random.IntN(7),
			whos:       1 + random.IntN(6),
			writes:     1 + random.IntN(4),
			lies:       random.IntN(5),
		})
		counts[compare(t, l, 12).Kind]++
		compareFind(t, l)
	}
	for _, kind := range []int{api.BadNone, api.BadStray, api.BadEarly, api.BadCross, api.BadInside} {
		if counts[kind] < 100 {
			t.Errorf("%d histories have violations of kind %d", counts[kind], kind)
		}
	}
}

// keep returns the events of the operations that are to stay.
func keep(l []api.Event, calls []api.Call, stays func(i int, c api.Call) bool) []api.Event {
	var kept []api.Event
	for at, event := range l {
		for i, c := range calls {
			if (c.From == at || c.To == at) && stays(i, c) {
				kept = append(kept, event)
			}
		}
	}
	return kept
}

// proof returns the events of a few operations that have the violation.
func proof(l []api.Event, bad api.Bad) []api.Event {
	calls, _, _ := history.Calls(register, l)
	if bad.Kind == api.BadStray || bad.Kind == api.BadEarly {
		return keep(l, calls, func(i int, c api.Call) bool { return i == bad.A || i == bad.B && bad.Kind == api.BadEarly })
	}
	a, b, _ := pairOf(naiveZones(calls, api.MaxValue+1), bad.A, bad.B)
	return keep(l, calls, func(_ int, c api.Call) bool {
		if c.Kind == api.KWrite {
			return c.Arg == a.Value || c.Arg == b.Value
		}
		for _, z := range []api.Zone{a, b} {
			if isRead(c) && c.Res == z.Value && (c.To == z.First || c.From == z.Last) {
				return true
			}
		}
		return false
	})
}

// P8.2: histories of up to 100 operations are linearizable, if no read lies. If
// one does, and there is a violation, then its few operations alone are not.
func TestLarge(t *testing.T) {
	random := rand.New(rand.NewPCG(8, 2))
	counts := map[int]int{}
	for range 1500 {
		p := plan{operations: 20 + random.IntN(81), whos: 1 + random.IntN(api.MaxWho), writes: 1 + random.IntN(5)}
		wantGood(t, simulate(random, p))
		p.lies = 1 + random.IntN(100)
		l := simulate(random, p)
		bad := compare(t, l, 101)
		counts[bad.Kind]++
		if bad.Kind == api.BadNone {
			continue
		}
		if _, is, e := search.Find(register, proof(l, bad)); is || e != api.OK {
			t.Errorf("Check(%v): %v; search.Find(%v): %v, %d", l, bad, proof(l, bad), is, e)
		}
	}
	for _, kind := range []int{api.BadNone, api.BadStray, api.BadEarly, api.BadCross, api.BadInside} {
		if counts[kind] < 20 {
			t.Errorf("%d histories have violations of kind %d", counts[kind], kind)
		}
	}
}
