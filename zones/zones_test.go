package zones

import (
	"math"
	"slices"
	"testing"

	"alibi/api"
)

// extremes are values around the ends of all ranges.
var extremes = []int{
	math.MinInt, math.MinInt + 1, -65536, -64, -16, -2, -1, 0, 1, 2, 3, 4, 5, 6, 7, 8, 9, 10, 11,
	15, 16, 17, 31, 32, 63, 64, 65, 127, 128, 255, 256, 257, 999, 1000, 1001, 65535, 65536, 1 << 32, math.MaxInt - 1, math.MaxInt,
}

// write returns the event by which a process calls a write.
func write(who, value int) api.Event {
	return api.Event{Who: who, Kind: api.KWrite, Value: value}
}

// read returns the event by which a process calls a read.
func read(who int) api.Event {
	return api.Event{Who: who, Kind: api.KRead}
}

// end returns the event by which a process gets a response.
func end(who, value int) api.Event {
	return api.Event{Who: who, Kind: api.KEnd, Value: value}
}

// wrote returns the two events of a write that overlaps with no other operation.
func wrote(who, value int) []api.Event {
	return []api.Event{write(who, value), end(who, 0)}
}

// got returns the two events of a read that overlaps with no other operation.
func got(who, value int) []api.Event {
	return []api.Event{read(who), end(who, value)}
}

// list returns the events in a list.
func list(l ...api.Event) []api.Event { return l }

// forward and backward return zones.
func forward(value, first, last int) api.Zone {
	return api.Zone{Value: value, First: first, Last: last, Forward: true}
}

func backward(value, first, last int) api.Zone {
	return api.Zone{Value: value, First: first, Last: last}
}

func wantZones(t *testing.T, l []api.Event, want ...api.Zone) {
	t.Helper()
	if zones, e := Zones(l); !slices.Equal(zones, want) || e != api.OK {
		t.Errorf("Zones(%v) = %v, %d; want %v, 0", l, zones, e, want)
	}
}

func wantGood(t *testing.T, l []api.Event) {
	t.Helper()
	if is, bad, e := Check(l); !is || bad != (api.Bad{}) || e != api.OK {
		t.Errorf("Check(%v) = %v, %v, %d; want true, {0 0 0}, 0", l, is, bad, e)
	}
}

func wantBad(t *testing.T, l []api.Event, kind, a, b int) {
	t.Helper()
	want := api.Bad{Kind: kind, A: a, B: b}
	if is, bad, e := Check(l); is || bad != want || e != api.OK {
		t.Errorf("Check(%v) = %v, %v, %d; want false, %v, 0", l, is, bad, e, want)
	}
}

// wantError checks that both functions return the error and no more.
func wantError(t *testing.T, l []api.Event, want api.Errno) {
	t.Helper()
	if zones, e := Zones(l); zones != nil || e != want {
		t.Errorf("Zones(%v) = %v, %d; want nil, %d", l, zones, e, want)
	}
	if is, bad, e := Check(l); is || bad != (api.Bad{}) || e != want {
		t.Errorf("Check(%v) = %v, %v, %d; want false, {0 0 0}, %d", l, is, bad, e, want)
	}
}

// sample returns a history with a violation of every kind but one, and its zones.
func sample() ([]api.Event, []api.Zone) {
	l := []api.Event{
		read(0), end(0, 0),
		write(7, 9), read(1), end(1, 9),
		write(2, 300), end(2, 0),
		read(3), end(3, 20), write(3, 20),
		read(4), end(4, 0), read(1), end(1, 9),
		write(5, 1), read(6), write(4, 1000), end(4, 0),
	}
	zones := []api.Zone{forward(0, -1, 10), forward(9, 4, 12), forward(20, 8, 9), backward(300, 6, 5), backward(1000, 17, 16)}
	return l, zones
}

// P1: no function panics or runs forever, whatever an argument is.
func TestAnyArgument(t *testing.T) {
	l, _ := sample()
	for _, n := range extremes {
		for _, m := range extremes {
			for at := range l {
				changed := slices.Clone(l)
				changed[at].Kind = n
				changed[at].Value = m
				Zones(changed)
				Check(changed)
				changed = slices.Clone(l)
				changed[at].Who = n
				changed[at].Thing = m
				Zones(changed)
				Check(changed)
				changed = slices.Clone(l)
				changed[at].Who = n
				changed[at].Value = m
				Zones(changed)
				Check(changed)
			}
		}
	}
	Zones(make([]api.Event, 100_000))
	Check(make([]api.Event, 100_000))
}

// P2: the argument, with its spare capacity, is as it was.
func TestArgumentsAreKept(t *testing.T) {
	l, _ := sample()
	for n := range len(l) + 1 {
		many := append(slices.Clone(l), end(-11, -12), end(-13, -14))
		Zones(many[:n])
		Check(many[:n])
		if !slices.Equal(many, append(slices.Clone(l), end(-11, -12), end(-13, -14))) {
			t.Error(many)
		}
	}
}

// P2: overwriting one result, with its spare capacity, changes no other result.
func TestResultsAreNew(t *testing.T) {
	l, want := sample()
	first, _ := Zones(l)
	second, _ := Zones(l)
	first = first[:cap(first)]
	for i := range first {
		first[i] = forward(-99, -99, -99)
	}
	if !slices.Equal(second, want) {
		t.Error(second)
	}
	wantZones(t, l, want...)
}

// P2: the results of a call do not depend on the calls before it.
func TestNoStateIsKept(t *testing.T) {
	l, zones := sample()
	for range 3 {
		wantZones(t, l, zones...)
		wantBad(t, l, api.BadEarly, 4, 5)
		wantGood(t, nil)
		wantZones(t, nil)
		wantError(t, append(slices.Clone(l), write(0, 300)), api.ErrClass)
		wantGood(t, wrote(0, 300))
		wantZones(t, wrote(0, 300), backward(300, 1, 0))
		wantError(t, l[1:], api.ErrNone)
	}
}

// P8: the error of history.Calls comes first; the only object is a register.
func TestErrorsOfCalls(t *testing.T) {
	l, _ := sample()
	twice := slices.Concat(wrote(0, 9), wrote(0, 9))
	wantError(t, slices.Repeat(got(0, 0), 101), api.ErrLarge)
	wantError(t, slices.Repeat(list(end(9, 9)), 201), api.ErrLarge)
	wantError(t, slices.Repeat(wrote(0, 9), 101), api.ErrLarge)
	for _, c := range []struct {
		event api.Event
		want  api.Errno
	}{
		{read(8), api.ErrForm},
		{read(-1), api.ErrForm},
		{write(0, 1001), api.ErrForm},
		{write(0, -1), api.ErrForm},
		// The error of history.Calls for a write of 0 comes before the one for a value that is written twice.
		{write(0, 0), api.ErrForm},
		{api.Event{Kind: api.KRead, Value: 1}, api.ErrForm},
		{api.Event{Kind: api.KRead, Thing: 1}, api.ErrForm},
		{api.Event{Kind: api.KRead, Thing: -1}, api.ErrForm},
		{api.Event{Kind: api.KEnq, Value: 1}, api.ErrForm},
		{api.Event{Kind: api.KDeq}, api.ErrForm},
		{api.Event{Kind: api.KPush, Value: 1}, api.ErrForm},
		{api.Event{Kind: api.KAdd, Value: 1}, api.ErrForm},
		{api.Event{Kind: api.KTake}, api.ErrForm},
		{api.Event{Kind: 11}, api.ErrForm},
		{end(2, 0), api.ErrNone},
		{end(6, 1001), api.ErrForm},
		{end(6, -1), api.ErrForm},
		{end(5, 1), api.ErrForm},
		{api.Event{Who: 6, Thing: 1}, api.ErrForm},
		{read(6), api.ErrTwice},
		{write(5, 44), api.ErrTwice},
	} {
		wantError(t, append(slices.Clone(l), c.event), c.want)
		wantError(t, slices.Concat(l, list(c.event), twice), c.want)
		wantError(t, slices.Concat(twice, l, list(c.event)), c.want)
	}
}

// P8: two writes of one value are an error, with responses or without.
func TestWrittenTwice(t *testing.T) {
	for _, value := range []int{1, 2, 63, 64, 1000} {
		wantError(t, slices.Concat(wrote(0, value), wrote(0, value)), api.ErrClass)
		wantError(t, list(write(0, value), end(0, 0), write(0, value)), api.ErrClass)
		wantError(t, list(write(0, value), write(1, value), end(1, 0)), api.ErrClass)
		wantError(t, list(write(0, value), write(1, value)), api.ErrClass)
		wantError(t, slices.Concat(wrote(0, value), got(3, 7), wrote(2, 5), wrote(1, value)), api.ErrClass)
		wantGood(t, slices.Concat(wrote(0, value), wrote(0, value%1000+1)))
	}
	// There may be 100 values with responses, or more operations, if the last value is another one.
	var l []api.Event
	for i := range 100 {
		l = append(l, wrote(i%api.MaxWho, 1000-i)...)
	}
	wantGood(t, l)
	l[198].Value = 1000
	wantError(t, l, api.ErrClass)
	l[198].Value = 902
	wantError(t, l, api.ErrClass)
}

// P8.1: a zone extends from the first end to the last beginning of its operations.
func TestZones(t *testing.T) {
	l, zones := sample()
	wantZones(t, l, zones...)
	wantZones(t, wrote(0, 7), backward(7, 1, 0))
	wantZones(t, slices.Concat(wrote(0, 7), got(1, 7)), forward(7, 1, 2))
	wantZones(t, slices.Concat(wrote(0, 7), got(1, 7), got(1, 7)), forward(7, 1, 4))
	// The write comes last, or is not the first to end.
	wantZones(t, slices.Concat(got(1, 7), got(1, 7), wrote(0, 7)), forward(7, 1, 4))
	wantZones(t, slices.Concat(got(1, 7), wrote(0, 7)), forward(7, 1, 2))
	wantZones(t, list(write(0, 7), read(1), end(1, 7), end(0, 0)), backward(7, 2, 1))
	wantZones(t, list(write(0, 7), read(1), end(0, 0), end(1, 7)), backward(7, 2, 1))
	wantZones(t, list(read(1), write(0, 7), end(1, 7), end(0, 0)), backward(7, 2, 1))
	wantZones(t, list(read(1), write(0, 7), end(0, 0), end(1, 7)), backward(7, 2, 1))
	wantZones(t, list(write(0, 7), read(1), read(2), end(0, 0), end(2, 7), end(1, 7)), backward(7, 3, 2))
	wantZones(t, list(write(0, 7), read(1), end(1, 7), read(2), end(0, 0), end(2, 7)), forward(7, 2, 3))
}

// P8.1: the zones are in the order of their values, not of their writes.
func TestOrderOfZones(t *testing.T) {
	wantZones(t, slices.Concat(wrote(0, 1000), got(1, 0), wrote(0, 64), wrote(0, 1), wrote(0, 999), wrote(0, 65)),
		forward(0, -1, 2), backward(1, 7, 6), backward(64, 5, 4), backward(65, 11, 10), backward(999, 9, 8), backward(1000, 1, 0))
	var l []api.Event
	var want []api.Zone
	for value := 100; value > 0; value-- {
		want = append(want, backward(101-value, 2*value-1, 2*value-2))
		l = append(l, wrote(value%8, value)...)
	}
	wantZones(t, l, want...)
}

// P8.1: a cluster counts if it has a read or its write has a response.
func TestClustersThatCount(t *testing.T) {
	wantZones(t, nil)
	wantZones(t, []api.Event{})
	wantZones(t, list(write(0, 7)))
	wantZones(t, list(write(0, 7), write(1, 8), end(1, 0)), backward(8, 2, 1))
	// The end of a write without response is never the first one: a read ends before it.
	wantZones(t, slices.Concat(list(write(0, 7)), got(1, 7)), backward(7, 2, 1))
	wantZones(t, slices.Concat(list(write(0, 7)), got(1, 7), got(1, 7)), forward(7, 2, 3))
	wantZones(t, slices.Concat(got(1, 7), list(write(0, 7))), forward(7, 1, 2))
	// A cluster without a write has no zone.
	wantZones(t, got(1, 7))
	wantZones(t, slices.Concat(got(1, 7), wrote(0, 6)), backward(6, 3, 2))
}

// P8.1: the write of 0 is before all events, and its cluster counts if there is a read with a response of 0.
func TestZero(t *testing.T) {
	wantZones(t, got(3, 0), forward(0, -1, 0))
	wantZones(t, slices.Concat(wrote(0, 5), got(3, 0), got(3, 5)), forward(0, -1, 2), forward(5, 1, 4))
	wantZones(t, list(read(0), read(1), end(0, 0)), forward(0, -1, 0))
	wantZones(t, list(read(0), read(1), end(1, 0)), forward(0, -1, 1))
}

// P8.1: a read without a response belongs to no cluster.
func TestPendingReads(t *testing.T) {
	wantZones(t, list(read(0)))
	wantZones(t, append(wrote(0, 7), read(1), read(2)), backward(7, 1, 0))
	wantZones(t, append(got(0, 0), read(1)), forward(0, -1, 0))
	wantGood(t, append(wrote(0, 7), read(1)))
	wantGood(t, slices.Concat(wrote(0, 7), list(read(1)), got(0, 7)))
	wantBad(t, slices.Concat(wrote(0, 7), list(read(1)), got(0, 0)), api.BadInside, 0, 7)
}

// P8.2: histories without a violation.
func TestGood(t *testing.T) {
	for _, l := range [][]api.Event{
		nil,
		{},
		got(0, 0),
		slices.Repeat(got(0, 0), 100),
		wrote(0, 1000),
		slices.Concat(got(0, 0), wrote(0, 5), got(1, 5), wrote(2, 4), got(2, 4), got(1, 4)),
		// Reads that overlap with a write return the value before it, and later ones the value of it.
		slices.Concat(list(write(0, 5)), got(1, 0), got(2, 0), got(1, 5), got(2, 5), list(end(0, 0))),
		// Writes that overlap have the order that the reads say.
		slices.Concat(list(write(0, 5), write(1, 3), end(0, 0), end(1, 0)), got(2, 5)),
		slices.Concat(list(write(0, 5), write(1, 3), end(0, 0), end(1, 0)), got(2, 3)),
		slices.Concat(list(write(0, 5), write(1, 3)), got(2, 5), got(2, 3), list(end(0, 0), end(1, 0))),
		slices.Concat(list(write(0, 5), write(1, 3)), got(2, 3), got(2, 5), list(end(0, 0), end(1, 0))),
		// A write without a response takes effect when it is read, or never.
		slices.Concat(list(write(0, 5)), got(1, 0), wrote(1, 3), got(1, 3), got(1, 5), got(1, 5)),
		slices.Concat(list(write(0, 5)), got(1, 0), wrote(1, 3), got(1, 3)),
		// A read begins before the write of its value.
		list(read(0), write(1, 5), end(0, 5)),
		list(read(0), write(1, 5), end(1, 0), end(0, 5)),
	} {
		wantGood(t, l)
	}
}

// P8.2: a read of a value that no operation writes is reported first, by its index among the operations.
func TestStray(t *testing.T) {
	wantBad(t, got(0, 7), api.BadStray, 0, 0)
	wantBad(t, got(0, 1000), api.BadStray, 0, 0)
	wantBad(t, slices.Concat(got(0, 0), wrote(1, 6), got(0, 7)), api.BadStray, 2, 0)
	wantBad(t, slices.Concat(wrote(1, 6), wrote(1, 8), got(0, 9), got(0, 7)), api.BadStray, 2, 0)
	// Of two reads, the one with the first invocation: neither that with the first response nor that of the smaller value.
	wantBad(t, list(write(3, 6), read(0), read(1), end(1, 7), end(0, 8)), api.BadStray, 1, 0)
	wantBad(t, list(read(2), read(0), read(1), end(1, 7), end(0, 8)), api.BadStray, 1, 0)
	// All other violations come after it, wherever they are.
	l, _ := sample()
	wantBad(t, append(slices.Clone(l), end(6, 44)), api.BadStray, 9, 0)
	wantBad(t, slices.Concat(got(0, 5), wrote(0, 5), wrote(0, 6), got(0, 5), got(0, 0), got(0, 7)), api.BadStray, 5, 0)
}

// P8.2: a read that ends before the write of its value begins is reported next, with the write.
func TestEarly(t *testing.T) {
	wantBad(t, slices.Concat(got(0, 7), wrote(0, 7)), api.BadEarly, 0, 1)
	wantBad(t, append(got(0, 7), write(0, 7)), api.BadEarly, 0, 1)
	wantBad(t, slices.Concat(got(0, 0), got(0, 7), wrote(1, 6), got(0, 0), wrote(1, 7)), api.BadEarly, 1, 4)
	wantGood(t, list(read(0), write(1, 7), end(0, 7)))
	// Of two reads, the one with the first invocation, of one value or of two.
	wantBad(t, slices.Concat(list(read(0), read(1), end(1, 7), end(0, 7)), wrote(2, 7)), api.BadEarly, 0, 2)
	wantBad(t, slices.Concat(list(read(0), read(1), end(1, 7), end(0, 8)), wrote(2, 7), wrote(2, 8)), api.BadEarly, 0, 3)
	wantBad(t, slices.Concat(list(read(0), read(1), end(1, 8), end(0, 7)), wrote(2, 8), wrote(2, 7)), api.BadEarly, 0, 3)
	// The first read of the value is not early, but the second one is.
	wantBad(t, slices.Concat(list(read(0)), got(1, 7), list(write(1, 7), end(0, 7))), api.BadEarly, 1, 2)
	// Violations of the zones come after it.
	wantBad(t, slices.Concat(wrote(0, 1), wrote(0, 2), got(0, 1), got(0, 2), got(0, 3), wrote(0, 3)), api.BadEarly, 4, 5)
}

// P8.2: two forward zones that overlap.
func TestCross(t *testing.T) {
	for _, c := range [][2]int{{5, 3}, {3, 5}, {1, 1000}} {
		both := list(write(0, c[0]), write(1, c[1]), end(0, 0), end(1, 0))
		least, most := min(c[0], c[1]), max(c[0], c[1])
		wantBad(t, slices.Concat(both, got(2, c[0]), got(2, c[1])), api.BadCross, least, most)
		wantBad(t, slices.Concat(both, got(2, c[0]), got(2, c[1]), got(2, c[0])), api.BadCross, least, most)
		wantBad(t, slices.Concat(wrote(0, c[0]), wrote(1, c[1]), got(2, c[0]), got(2, c[1])), api.BadCross, least, most)
		wantBad(t, slices.Concat(both, got(2, 0), got(2, c[0])), api.BadCross, 0, c[0])
		// The zones follow one another.
		wantGood(t, slices.Concat(wrote(0, c[0]), got(2, c[0]), wrote(1, c[1]), got(2, c[1])))
	}
	// The first end of a zone may be that of a read.
	pending := list(write(0, 5), write(1, 3))
	wantBad(t, slices.Concat(pending, got(2, 5), got(2, 3), got(2, 5), got(2, 3)), api.BadCross, 3, 5)
	wantBad(t, slices.Concat(pending, got(2, 5), got(2, 3), got(2, 3), got(2, 5), list(end(0, 0), end(1, 0))), api.BadCross, 3, 5)
}

// P8.2: of several pairs of forward zones, the one with the smallest A, and for it the smallest B.
func TestSmallestCross(t *testing.T) {
	wrotes := slices.Concat(wrote(0, 8), wrote(0, 6), wrote(0, 4), wrote(0, 2))
	wantBad(t, slices.Concat(wrotes, got(1, 8), got(1, 6), got(1, 4), got(1, 2)), api.BadCross, 2, 4)
	wantBad(t, slices.Concat(wrotes, got(1, 8), got(1, 6), got(1, 4)), api.BadCross, 4, 6)
	wantBad(t, slices.Concat(wrotes, got(1, 2), got(1, 8), got(1, 4)), api.BadCross, 2, 4)
	wantBad(t, slices.Concat(wrotes, got(1, 2), got(1, 8), got(1, 6)), api.BadCross, 2, 6)
	wantBad(t, slices.Concat(wrotes, got(1, 2), got(1, 8)), api.BadCross, 2, 8)
	wantBad(t, slices.Concat(wrotes, got(1, 4), got(1, 0)), api.BadCross, 0, 4)
	// The zones of 2 and 4 overlap, and so do those of 1 and 9, which end before.
	wantBad(t, slices.Concat(wrote(0, 1), wrote(0, 9), got(1, 9), got(1, 1), wrote(0, 2), wrote(0, 4), got(1, 2), got(1, 4)), api.BadCross, 1, 9)
	// The zones of 2 and 4 overlap first, and those of 1 and 9 do later.
	wantBad(t, slices.Concat(wrote(0, 2), wrote(0, 4), got(1, 2), got(1, 4), wrote(0, 1), wrote(0, 9), got(1, 9), got(1, 1)), api.BadCross, 1, 9)
	// The smaller values have no violation.
	wantBad(t, slices.Concat(wrote(0, 1), got(1, 1), wrote(0, 2), got(1, 2), wrote(0, 4), wrote(0, 3), got(1, 4), got(1, 3)), api.BadCross, 3, 4)
}

// P8.2: a backward zone in a forward one.
func TestInside(t *testing.T) {
	// The example of the document: a read of 0 that starts after a completed write of 5.
	wantBad(t, append(wrote(0, 5), got(1, 0)...), api.BadInside, 0, 5)
	wantBad(t, list(write(0, 5), read(1), end(1, 5), read(1), end(1, 0)), api.BadInside, 0, 5)
	for _, c := range [][2]int{{5, 3}, {3, 5}, {1000, 1}} {
		a, b := c[0], c[1]
		wantBad(t, slices.Concat(wrote(0, a), wrote(0, b), got(1, a)), api.BadInside, a, b)
		wantBad(t, slices.Concat(wrote(0, a), list(write(1, b), read(2), end(2, b), end(1, 0)), got(2, a)), api.BadInside, a, b)
		wantBad(t, slices.Concat(list(write(1, b)), wrote(0, a), got(2, b), got(2, a)), api.BadInside, a, b)
		// The zone of the other value begins before or ends after, or contains the forward zone.
		wantGood(t, slices.Concat(list(write(1, b)), wrote(0, a), list(end(1, 0)), got(2, a)))
		wantGood(t, slices.Concat(wrote(0, a), list(write(1, b)), got(2, a), list(end(1, 0))))
		wantGood(t, slices.Concat(list(write(1, b)), wrote(0, a), got(2, a), list(end(1, 0))))
		wantGood(t, slices.Concat(list(write(1, b)), wrote(0, a), got(2, a)))
		// One backward zone in another one is none of the violations.
		wantGood(t, list(write(0, a), write(1, b), end(1, 0), end(0, 0)))
	}
}

// P8.2: of several pairs, the one with the smallest A, and for it the smallest B; crossing zones come first.
func TestSmallestInside(t *testing.T) {
	wantBad(t, slices.Concat(wrote(0, 5), wrote(0, 9), wrote(0, 7), wrote(0, 3), got(1, 5)), api.BadInside, 5, 3)
	wantBad(t, slices.Concat(wrote(0, 5), wrote(0, 9), wrote(0, 7), got(1, 5), wrote(0, 3)), api.BadInside, 5, 7)
	wantBad(t, slices.Concat(wrote(0, 5), wrote(0, 9), wrote(0, 7), got(1, 0)), api.BadInside, 0, 5)
	first := slices.Concat(wrote(0, 5), wrote(0, 9), got(1, 5))
	second := slices.Concat(wrote(0, 2), wrote(0, 20), wrote(0, 11), got(1, 2))
	third := slices.Concat(wrote(0, 3), wrote(0, 1), got(1, 3))
	wantBad(t, slices.Concat(first, second, third), api.BadInside, 2, 11)
	wantBad(t, slices.Concat(third, second, first), api.BadInside, 2, 11)
	wantBad(t, slices.Concat(first, third), api.BadInside, 3, 1)
	crossing := slices.Concat(wrote(0, 100), wrote(0, 200), got(1, 200), got(1, 100))
	wantBad(t, slices.Concat(first, second, third, crossing), api.BadCross, 100, 200)
	wantBad(t, slices.Concat(crossing, first), api.BadCross, 100, 200)
}

// P8.2: one violation of each kind, removed one after the other.
func TestOrderOfViolations(t *testing.T) {
	l := slices.Concat(wrote(0, 8), wrote(0, 6), wrote(0, 4), got(1, 8), got(1, 4), got(1, 3), wrote(0, 3), got(1, 2))
	wantBad(t, l, api.BadStray, 7, 0)
	l[15].Value = 3
	wantBad(t, l, api.BadEarly, 5, 6)
	l[11].Value = 4
	wantBad(t, l, api.BadCross, 4, 8)
	l[9].Value, l[11].Value = 8, 8
	wantBad(t, l, api.BadInside, 8, 4)
	l[7].Value, l[9].Value, l[11].Value = 4, 4, 4
	wantGood(t, l)
}

// P8.2: histories of as many events as there may be.
func TestManyEvents(t *testing.T) {
	var l []api.Event
	for value := 1; value <= 50; value++ {
		l = append(l, wrote(value%8, value*20)...)
		l = append(l, got(value%7, value*20)...)
	}
	wantGood(t, l)
	changed := slices.Clone(l)
	changed[199].Value = 980
	wantBad(t, changed, api.BadInside, 980, 1000)
	changed[199].Value = 20
	wantBad(t, changed, api.BadCross, 20, 40)
	changed[199].Value = 0
	wantBad(t, changed, api.BadCross, 0, 20)
	changed[199].Value = 999
	wantBad(t, changed, api.BadStray, 99, 0)
	changed = slices.Clone(l)
	changed[3].Value = 1000
	wantBad(t, changed, api.BadEarly, 1, 98)
}
