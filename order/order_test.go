package order

import (
	"fmt"
	"math"
	"reflect"
	"slices"
	"testing"

	"alibi/api"
)

type pair [2]int

// relation returns the relation on n items with the given pairs.
func relation(n int, pairs ...pair) api.Rel {
	r := api.Rel{N: n}
	for _, p := range pairs {
		r.After[p[0]] |= 1 << p[1]
	}
	return r
}

// ladder returns the relation in which each item of the list precedes the next one.
func ladder(items ...int) api.Rel {
	r := api.Rel{N: len(items)}
	for k := 1; k < len(items); k++ {
		r.After[items[k-1]] |= 1 << items[k]
	}
	return r
}

// crown returns the relation on 12 items in which i precedes 6 + j, for i and j from 0 to 5, i not j.
func crown() api.Rel {
	r := api.Rel{N: 12}
	for i := range 6 {
		for j := range 6 {
			if i != j {
				r.After[i] |= 1 << (6 + j)
			}
		}
	}
	return r
}

var listFunctions = []struct {
	name string
	call func(api.Rel) ([]int, api.Errno)
}{
	{"Least", Least}, {"Chain", Chain}, {"Apart", Apart}, {"Ranks", Ranks}, {"Chains", Chains},
}

// wantError checks that all functions but Check and Close return the error, and zero values with it.
func wantError(t *testing.T, r api.Rel, want api.Errno) {
	t.Helper()
	for _, f := range listFunctions {
		if l, e := f.call(r); l != nil || e != want {
			t.Errorf("%s(%v) = %v, %d; want nil, %d", f.name, r, l, e, want)
		}
	}
	if n, e := Count(r); n != 0 || e != want {
		t.Errorf("Count(%v) = %d, %d; want 0, %d", r, n, e, want)
	}
}

type lists struct{ least, chain, apart, ranks, chains []int }

// wantLists checks the results of all functions for an acyclic relation.
func wantLists(t *testing.T, r api.Rel, count int, want lists) {
	t.Helper()
	wanted := [][]int{want.least, want.chain, want.apart, want.ranks, want.chains}
	for k, f := range listFunctions {
		if l, e := f.call(r); !slices.Equal(l, wanted[k]) || e != api.OK {
			t.Errorf("%s(%v) = %v, %d; want %v, 0", f.name, r, l, e, wanted[k])
		}
	}
	if n, e := Count(r); n != count || e != api.OK {
		t.Errorf("Count(%v) = %d, %d; want %d, 0", r, n, e, count)
	}
}

// P1: no function panics or runs forever, whatever the relation is.
func TestAnyArgument(t *testing.T) {
	for _, n := range []int{math.MinInt, math.MinInt + 1, -1, 0, 1, 2, 11, 12, 13, 16, 17, 64, math.MaxInt} {
		for _, bits := range []uint16{0, 1, 0x0555, 0x0FFF, 0x1000, 0x8000, 0xFFFF} {
			r := api.Rel{N: n}
			for i := range r.After {
				r.After[i] = bits
			}
			Check(r)
			Close(r)
			Count(r)
			for _, f := range listFunctions {
				f.call(r)
			}
		}
	}
}

// P2: overwriting one result, with its spare capacity, changes no other one.
func TestResultsAreNew(t *testing.T) {
	relations := []api.Rel{{N: 12}, relation(5, pair{1, 0}, pair{2, 0}, pair{2, 4}, pair{4, 3}), crown(), {}}
	for _, r := range relations {
		for _, f := range listFunctions {
			first, _ := f.call(r)
			second, _ := f.call(r)
			wanted := slices.Clone(first)
			for k := range first[:cap(first)] {
				first[:cap(first)][k] = -99
			}
			third, _ := f.call(r)
			if !slices.Equal(second, wanted) || !slices.Equal(third, wanted) {
				t.Errorf("%s(%v): %v and %v; want %v", f.name, r, second, third, wanted)
			}
		}
	}
}

// P2: the results of a call do not depend on the calls before it.
func TestNoStateIsKept(t *testing.T) {
	r := relation(4, pair{2, 0}, pair{3, 1})
	all := func() string {
		s := ""
		for _, f := range listFunctions {
			l, e := f.call(r)
			s += fmt.Sprintln(f.name, l, e)
		}
		closure, cyclic, e := Close(r)
		n, e2 := Count(r)
		return s + fmt.Sprintln(closure, cyclic, e, n, e2, Check(r))
	}
	before := all()
	for _, other := range []api.Rel{{N: 13}, {N: 1, After: [12]uint16{1}}, crown(), {}} {
		for _, f := range listFunctions {
			f.call(other)
		}
		Close(other)
		Count(other)
		if after := all(); after != before {
			t.Errorf("after calls for %v:\n%swant\n%s", other, after, before)
		}
	}
}

// P1.1: Check accepts relations on 0 to 12 items, cyclic ones as well.
func TestCheckAccepts(t *testing.T) {
	for n := range api.MaxItems + 1 {
		full := api.Rel{N: n}
		for i := range n {
			full.After[i] = 1<<n - 1
		}
		for _, r := range []api.Rel{{N: n}, full} {
			if e := Check(r); e != api.OK {
				t.Errorf("Check(%v) = %d; want 0", r, e)
			}
		}
	}
}

// P1.1: the errors of Check are returned by all functions, ErrArg before ErrForm.
func TestCheckErrors(t *testing.T) {
	for _, c := range []struct {
		r    api.Rel
		want api.Errno
	}{
		{api.Rel{N: -1}, api.ErrArg},
		{api.Rel{N: 13}, api.ErrArg},
		{api.Rel{N: math.MinInt}, api.ErrArg},
		{api.Rel{N: math.MaxInt}, api.ErrArg},
		{api.Rel{N: 13, After: [12]uint16{1 << 15}}, api.ErrArg},
		{api.Rel{N: -1, After: [12]uint16{1}}, api.ErrArg},
		{api.Rel{N: 0, After: [12]uint16{1}}, api.ErrForm},
		{api.Rel{N: 1, After: [12]uint16{1 << 1}}, api.ErrForm},
		{api.Rel{N: 5, After: [12]uint16{4: 1 << 5}}, api.ErrForm},
		{api.Rel{N: 11, After: [12]uint16{3: 1 << 11}}, api.ErrForm},
		{api.Rel{N: 12, After: [12]uint16{0: 1 << 12}}, api.ErrForm},
		{api.Rel{N: 12, After: [12]uint16{11: 1 << 15}}, api.ErrForm},
		// Here the item that precedes another one does not exist.
		{api.Rel{N: 1, After: [12]uint16{1: 1}}, api.ErrForm},
		{api.Rel{N: 11, After: [12]uint16{11: 1}}, api.ErrForm},
		// A relation that is cyclic as well gets the error of Check.
		{api.Rel{N: 2, After: [12]uint16{1, 1 << 2}}, api.ErrForm},
	} {
		if e := Check(c.r); e != c.want {
			t.Errorf("Check(%v) = %d; want %d", c.r, e, c.want)
		}
		closure, cyclic, e := Close(c.r)
		if !reflect.ValueOf(closure).IsZero() || cyclic || e != c.want {
			t.Errorf("Close(%v) = %v, %t, %d; want zeros, %d", c.r, closure, cyclic, e, c.want)
		}
		wantError(t, c.r, c.want)
	}
}

// P1.1: Close adds what follows, and tells whether the relation is cyclic.
func TestClose(t *testing.T) {
	for _, c := range []struct {
		r, want api.Rel
		cyclic  bool
	}{
		{api.Rel{}, api.Rel{}, false},
		{api.Rel{N: 12}, api.Rel{N: 12}, false},
		{ladder(2, 1, 0), relation(3, pair{2, 1}, pair{2, 0}, pair{1, 0}), false},
		{ladder(1, 3, 0, 2), relation(4, pair{1, 3}, pair{1, 0}, pair{1, 2}, pair{3, 0}, pair{3, 2}, pair{0, 2}), false},
		{relation(1, pair{0, 0}), relation(1, pair{0, 0}), true},
		{relation(2, pair{0, 1}, pair{1, 0}), relation(2, pair{0, 0}, pair{0, 1}, pair{1, 0}, pair{1, 1}), true},
		// Item 0 precedes the cycle, and 3 comes after it, but they are not on it.
		{
			relation(4, pair{0, 1}, pair{1, 2}, pair{2, 1}, pair{2, 3}),
			relation(4, pair{0, 1}, pair{0, 2}, pair{0, 3}, pair{1, 1}, pair{1, 2}, pair{1, 3},
				pair{2, 1}, pair{2, 2}, pair{2, 3}),
			true,
		},
	} {
		closure, cyclic, e := Close(c.r)
		if closure != c.want || cyclic != c.cyclic || e != api.OK {
			t.Errorf("Close(%v) = %v, %t, %d; want %v, %t, 0", c.r, closure, cyclic, e, c.want, c.cyclic)
		}
	}
}

// P1.1: a cycle through all of 12 items leads from every item to every item.
func TestCloseLongCycle(t *testing.T) {
	r := ladder(3, 7, 0, 11, 5, 1, 9, 2, 10, 4, 8, 6)
	r.After[6] = 1 << 3
	closure, cyclic, e := Close(r)
	if !cyclic || e != api.OK {
		t.Error(cyclic, e)
	}
	for i, after := range closure.After {
		if after != 0x0FFF {
			t.Errorf("After[%d] = %#x", i, after)
		}
	}
}

// P1.2: a cyclic relation is an error of all functions after Close.
func TestCyclic(t *testing.T) {
	long := ladder(3, 7, 0, 11, 5, 1, 9, 2, 10, 4, 8, 6)
	long.After[6] = 1 << 3
	for _, r := range []api.Rel{
		relation(1, pair{0, 0}),
		relation(12, pair{11, 11}),
		relation(2, pair{0, 1}, pair{1, 0}),
		relation(5, pair{0, 1}, pair{2, 3}, pair{3, 4}, pair{4, 2}),
		long,
	} {
		if e := Check(r); e != api.OK {
			t.Errorf("Check(%v) = %d; want 0", r, e)
		}
		wantError(t, r, api.ErrNone)
	}
}

// P1.2: the example of the document.
func TestLeastExample(t *testing.T) {
	l, e := Least(relation(4, pair{2, 0}, pair{3, 1}))
	if !slices.Equal(l, []int{2, 0, 3, 1}) || e != api.OK {
		t.Error(l, e)
	}
}

// P1.2: two chains of six items can be merged in 12 over 6 ways.
func TestCountMerges(t *testing.T) {
	r := ladder(0, 2, 4, 6, 8, 10, 1, 3, 5, 7, 9, 11)
	r.After[10] = 0
	if n, e := Count(r); n != 924 || e != api.OK {
		t.Error(n, e)
	}
}

// P1.2 to P1.4: the smallest and the largest relations.
func TestExtremes(t *testing.T) {
	up := []int{0, 1, 2, 3, 4, 5, 6, 7, 8, 9, 10, 11}
	down := slices.Clone(up)
	slices.Reverse(down)
	zeros := make([]int, 12)
	wantLists(t, api.Rel{}, 1, lists{})
	wantLists(t, api.Rel{N: 1}, 1, lists{zeros[:1], zeros[:1], zeros[:1], zeros[:1], zeros[:1]})
	wantLists(t, api.Rel{N: 12}, 479001600, lists{up, zeros[:1], up, zeros, up})
	wantLists(t, ladder(up...), 1, lists{up, up, zeros[:1], up, zeros})
	wantLists(t, ladder(down...), 1, lists{down, down, zeros[:1], down, zeros})
}

// P1.3 and P1.4: chains and antichains go by the closure, not by the relation.
func TestClosureCounts(t *testing.T) {
	wantLists(t, ladder(2, 0, 1), 1, lists{
		least:  []int{2, 0, 1},
		chain:  []int{2, 0, 1},
		apart:  []int{0},
		ranks:  []int{1, 2, 0},
		chains: []int{0, 0, 0},
	})
	// Item 1 shares a chain with 0 and 3 only because 0 precedes 3 by way of 2.
	r := relation(5, pair{0, 2}, pair{2, 3}, pair{4, 2}, pair{2, 1})
	wantLists(t, r, 4, lists{
		least:  []int{0, 4, 2, 1, 3},
		chain:  []int{0, 2, 1},
		apart:  []int{0, 4},
		ranks:  []int{0, 2, 1, 2, 0},
		chains: []int{0, 0, 0, 1, 1},
	})
}

// P1.3: among the longest chains and antichains the smallest one is returned.
func TestSmallestOfTheLongest(t *testing.T) {
	// The longest chains are 3 0 5, 3 1 2, 3 1 5, 4 1 2 and 4 1 5.
	r := relation(6, pair{3, 0}, pair{0, 5}, pair{3, 1}, pair{1, 5}, pair{1, 2}, pair{4, 1})
	if l, e := Chain(r); !slices.Equal(l, []int{3, 0, 5}) || e != api.OK {
		t.Error(l, e)
	}
	// The longest antichains are 0 1, 0 2, 0 4, 2 5 and 3 4.
	if l, e := Apart(r); !slices.Equal(l, []int{0, 1}) || e != api.OK {
		t.Error(l, e)
	}
	// The antichain that begins with the smallest item is not the longest one.
	r = relation(4, pair{0, 1}, pair{0, 2}, pair{0, 3})
	if l, e := Apart(r); !slices.Equal(l, []int{1, 2, 3}) || e != api.OK {
		t.Error(l, e)
	}
}

// P1.4: an item may not take the smallest number that is possible so far.
func TestChainsLookAhead(t *testing.T) {
	r := relation(4, pair{0, 1}, pair{2, 1}, pair{0, 3})
	if l, e := Chains(r); !slices.Equal(l, []int{0, 1, 1, 0}) || e != api.OK {
		t.Error(l, e)
	}
	if l, e := Chains(crown()); !slices.Equal(l, []int{0, 1, 2, 3, 4, 5, 1, 0, 3, 2, 5, 4}) || e != api.OK {
		t.Error(l, e)
	}
}
