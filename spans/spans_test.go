package spans

import (
	"math"
	"reflect"
	"slices"
	"testing"

	"alibi/api"
)

// intervals returns the list of intervals with the given ends.
func intervals(ends ...int) []api.Span {
	l := make([]api.Span, len(ends)/2)
	for i := range l {
		l[i] = api.Span{From: ends[2*i], To: ends[2*i+1]}
	}
	return l
}

// relation returns the relation on n items with the given rows.
func relation(n int, after ...uint16) api.Rel {
	r := api.Rel{N: n}
	copy(r.After[:], after)
	return r
}

// wantError checks that the functions on intervals return the error, and zero values with it.
func wantError(t *testing.T, l []api.Span, want api.Errno) {
	t.Helper()
	if e := Check(l); e != want {
		t.Errorf("Check(%v) = %d; want %d", l, e, want)
	}
	if r, e := Of(l); !reflect.ValueOf(r).IsZero() || e != want {
		t.Errorf("Of(%v) = %v, %d; want zeros, %d", l, r, e, want)
	}
	if at, many, e := Meets(l); at != 0 || many != 0 || e != want {
		t.Errorf("Meets(%v) = %d, %d, %d; want 0, 0, %d", l, at, many, e, want)
	}
}

func wantOf(t *testing.T, l []api.Span, want api.Rel) {
	t.Helper()
	if r, e := Of(l); r != want || e != api.OK {
		t.Errorf("Of(%v) = %v, %d; want %v, 0", l, r, e, want)
	}
}

func wantMake(t *testing.T, r api.Rel, want []api.Span, wantError api.Errno) {
	t.Helper()
	if l, e := Make(r); !slices.Equal(l, want) || e != wantError {
		t.Errorf("Make(%v) = %v, %d; want %v, %d", r, l, e, want, wantError)
	}
}

func wantMeets(t *testing.T, l []api.Span, wantAt, wantMany int) {
	t.Helper()
	if at, many, e := Meets(l); at != wantAt || many != wantMany || e != api.OK {
		t.Errorf("Meets(%v) = %d, %d, %d; want %d, %d, 0", l, at, many, e, wantAt, wantMany)
	}
}

// P1: no function panics or runs forever, whatever the argument is.
func TestAnyArgument(t *testing.T) {
	values := []int{math.MinInt, math.MinInt + 1, -1, 0, 1, 2, api.MaxTime, api.MaxTime + 1, math.MaxInt}
	for _, n := range []int{0, 1, 2, 11, 12, 13, 100} {
		for _, from := range values {
			for _, to := range values {
				l := slices.Repeat(intervals(from, to), n)
				Check(l)
				Of(l)
				Meets(l)
			}
		}
	}
	for _, n := range []int{math.MinInt, -1, 0, 1, 2, 11, 12, 13, 16, 64, math.MaxInt} {
		for _, bits := range []uint16{0, 1, 0x0555, 0x0FFF, 0x1000, 0x8000, 0xFFFF} {
			r := api.Rel{N: n}
			for i := range r.After {
				r.After[i] = bits
			}
			Make(r)
		}
	}
}

// P2: the arguments, with their spare capacity, are as they were.
func TestArgumentsAreKept(t *testing.T) {
	all := intervals(7, 7, 2, 9, 0, 1, 5, 6, 3, 3)
	l := all[:3]
	Check(l)
	Of(l)
	Meets(l)
	if !slices.Equal(all, intervals(7, 7, 2, 9, 0, 1, 5, 6, 3, 3)) {
		t.Error(all)
	}
}

// P2: overwriting one result, with its spare capacity, changes no other one.
func TestResultsAreNew(t *testing.T) {
	for _, r := range []api.Rel{{N: 12}, relation(5, 26, 8, 8), {}} {
		first, _ := Make(r)
		second, _ := Make(r)
		wanted := slices.Clone(first)
		spare := first[:cap(first)]
		for k := range spare {
			spare[k] = api.Span{From: -99, To: -99}
		}
		third, _ := Make(r)
		if !slices.Equal(second, wanted) || !slices.Equal(third, wanted) {
			t.Errorf("Make(%v): %v and %v; want %v", r, second, third, wanted)
		}
	}
}

// P2: the results of a call do not depend on the calls before it.
func TestNoStateIsKept(t *testing.T) {
	l := intervals(0, 2, 1, 3, 3, 4)
	for range 2 {
		wantOf(t, l, relation(3, 4))
		wantMeets(t, l, 1, 2)
		wantMake(t, relation(3, 4), intervals(0, 0, 0, 1, 1, 1), api.OK)
		Of(intervals(5, 4))
		Meets(slices.Repeat(intervals(9, 9), 12))
		Make(relation(2, 2, 1))
		Make(relation(2, 0, 1))
	}
}

// P2.1: up to 12 intervals from 0 to 10^6 are accepted.
func TestCheckAccepts(t *testing.T) {
	for _, l := range [][]api.Span{
		nil,
		{},
		intervals(0, 0),
		intervals(api.MaxTime, api.MaxTime),
		intervals(0, api.MaxTime),
		slices.Repeat(intervals(3, 8), 12),
	} {
		if e := Check(l); e != api.OK {
			t.Errorf("Check(%v) = %d; want 0", l, e)
		}
	}
}

// P2.1: the errors of Check are returned by Of and Meets, ErrLarge before ErrForm.
func TestCheckErrors(t *testing.T) {
	wantError(t, slices.Repeat(intervals(3, 8), 13), api.ErrLarge)
	wantError(t, make([]api.Span, 1000), api.ErrLarge)
	wantError(t, slices.Repeat(intervals(-1, -2), 13), api.ErrLarge)
	for _, bad := range []api.Span{
		{From: -1, To: 0},
		{From: -1, To: -1},
		{From: math.MinInt, To: math.MaxInt},
		{From: api.MaxTime + 1, To: api.MaxTime + 1},
		{From: math.MaxInt, To: math.MaxInt},
		{From: 1, To: 0},
		{From: api.MaxTime, To: api.MaxTime - 1},
		{From: 0, To: math.MinInt},
		{From: 0, To: api.MaxTime + 1},
		{From: 0, To: math.MaxInt},
	} {
		wantError(t, []api.Span{bad}, api.ErrForm)
		l := slices.Repeat(intervals(0, 5), 12)
		l[11] = bad
		wantError(t, l, api.ErrForm)
	}
}

// P2.1: an interval precedes those that begin after its end, and not one that begins at its end.
func TestOf(t *testing.T) {
	wantOf(t, nil, api.Rel{})
	wantOf(t, intervals(3, 3), relation(1))
	wantOf(t, intervals(0, 5, 5, 9), relation(2))
	wantOf(t, intervals(0, 5, 6, 9), relation(2, 2))
	wantOf(t, intervals(6, 9, 0, 5), relation(2, 0, 1))
	wantOf(t, intervals(0, 9, 3, 4), relation(2))
	wantOf(t, intervals(0, 1, 4, 5, 2, 3), relation(3, 6, 0, 2))
	wantOf(t, intervals(0, 999_999, api.MaxTime, api.MaxTime), relation(2, 2))
	l, want := []api.Span(nil), api.Rel{N: 12}
	for i := range 12 {
		l = append(l, api.Span{From: i, To: i})
		want.After[i] = 0x0FFF &^ (1<<(i+1) - 1)
	}
	wantOf(t, l, want)
}

// P2.2: the error of order.Check comes first.
func TestMakeChecks(t *testing.T) {
	wantMake(t, api.Rel{N: -1}, nil, api.ErrArg)
	wantMake(t, api.Rel{N: 13}, nil, api.ErrArg)
	wantMake(t, relation(13, 1<<15), nil, api.ErrArg)
	wantMake(t, relation(2, 4), nil, api.ErrForm)
	wantMake(t, relation(1, 0, 1), nil, api.ErrForm)
	// Item 0 precedes itself as well.
	wantMake(t, relation(2, 1, 4), nil, api.ErrForm)
}

// P2.2: a relation that no intervals generate is an error.
func TestMakeNone(t *testing.T) {
	for _, r := range []api.Rel{
		relation(1, 1),                       // an item that precedes itself
		relation(2, 3),                       // and another one
		relation(2, 2, 2),                    // and is preceded by another one
		relation(2, 3, 3),                    // all items precede all
		relation(2, 2, 1),                    // two items precede each other
		relation(3, 2, 4),                    // not transitive
		relation(3, 2, 4, 1),                 // a cycle of three
		relation(4, 2, 0, 8),                 // two chains of two items side by side
		relation(5, 1<<1|1<<4, 0, 1<<3|1<<4), // the same below a common item
		{N: 12, After: [12]uint16{11: 1 << 10, 5: 1 << 4}}, // the same with the last items
		{N: 12, After: [12]uint16{0x0FFE, 11: 1}},          // the first and the last one precede each other
		{N: 12, After: [12]uint16{0x0FFE, 1 << 2, 1 << 3}}, // not transitive below a common item
	} {
		wantMake(t, r, nil, api.ErrNone)
	}
}

// P2.2: the ends are the numbers of the sets of preceding items.
func TestMake(t *testing.T) {
	wantMake(t, api.Rel{}, nil, api.OK)
	wantMake(t, relation(1), intervals(0, 0), api.OK)
	wantMake(t, api.Rel{N: 12}, make([]api.Span, 12), api.OK)
	wantMake(t, relation(2, 2), intervals(0, 0, 1, 1), api.OK)
	wantMake(t, relation(2, 0, 1), intervals(1, 1, 0, 0), api.OK)
	// Item 2 is concurrent with both ends of a chain of two.
	wantMake(t, relation(3, 2), intervals(0, 0, 1, 1, 0, 1), api.OK)
	// The sets are {}, {3} and {1, 3}.
	wantMake(t, relation(4, 0, 1, 0, 5), intervals(2, 2, 0, 1, 1, 2, 0, 0), api.OK)
	// Items 0 and 1 have the same set, which counts once.
	wantMake(t, relation(4, 8, 8, 3|8), intervals(1, 1, 1, 1, 0, 0, 2, 2), api.OK)
	chain, want := api.Rel{N: 12}, make([]api.Span, 12)
	for i := range 12 {
		chain.After[i] = 1<<i - 1
		want[i] = api.Span{From: 11 - i, To: 11 - i}
	}
	wantMake(t, chain, want, api.OK)
}

// P2.3: the example of the document.
func TestMeetsExample(t *testing.T) {
	wantMeets(t, intervals(0, 2, 1, 3, 3, 4), 1, 2)
}

// P2.3: the smallest of the best times is returned, in whatever order the intervals are.
func TestMeets(t *testing.T) {
	wantMeets(t, nil, 0, 0)
	wantMeets(t, []api.Span{}, 0, 0)
	wantMeets(t, intervals(0, 0), 0, 1)
	wantMeets(t, intervals(7, 9), 7, 1)
	wantMeets(t, intervals(8, 9, 2, 3, 5, 5), 2, 1)
	wantMeets(t, intervals(3, 4, 1, 3, 0, 2), 1, 2)
	wantMeets(t, intervals(8, 9, 8, 9, 2, 6, 3, 4), 3, 2)
	wantMeets(t, intervals(0, 5, 5, 9), 5, 2)
	wantMeets(t, intervals(0, 4, 5, 9), 0, 1)
	wantMeets(t, intervals(0, api.MaxTime, api.MaxTime, api.MaxTime), api.MaxTime, 2)
	wantMeets(t, slices.Repeat(intervals(3, 8), 12), 3, 12)
}
