package order

import (
	"math/rand/v2"
	"slices"
	"testing"

	"alibi/api"
)

// An answer contains what the functions return for an acyclic relation.
type answer struct {
	lists
	count int
}

// reaches reports whether a path of one or more steps leads from i to j.
func reaches(r api.Rel, i, j int) bool {
	seen := make([]bool, r.N)
	var visit func(k int)
	visit = func(k int) {
		for next := range r.N {
			if r.After[k]&(1<<next) != 0 && !seen[next] {
				seen[next] = true
				visit(next)
			}
		}
	}
	visit(i)
	return seen[j]
}

// naiveClose returns the closure by searching paths.
func naiveClose(r api.Rel) (closure api.Rel, cyclic bool) {
	closure.N = r.N
	for i := range r.N {
		for j := range r.N {
			if reaches(r, i, j) {
				closure.After[i] |= 1 << j
				cyclic = cyclic || i == j
			}
		}
	}
	return closure, cyclic
}

// everyList visits all lists of different items in lexicographic order.
func everyList(n int, list []int, visit func([]int)) {
	visit(list)
	for i := range n {
		if !slices.Contains(list, i) {
			everyList(n, append(slices.Clone(list), i), visit)
		}
	}
}

// everyNumbering visits all lists of n numbers from 0 to n - 1 in lexicographic order, until visit returns true.
func everyNumbering(n int, list []int, visit func([]int) bool) bool {
	if len(list) == n {
		return visit(list)
	}
	for k := range n {
		if everyNumbering(n, append(slices.Clone(list), k), visit) {
			return true
		}
	}
	return false
}

// pairwise reports whether the condition holds for each item of the list with each later one.
func pairwise(list []int, condition func(i, j int) bool) bool {
	for k, i := range list {
		for _, j := range list[k+1:] {
			if !condition(i, j) {
				return false
			}
		}
	}
	return true
}

// naiveLists finds all but the partition by going through all lists.
func naiveLists(closure api.Rel) answer {
	precedes := func(i, j int) bool { return closure.After[i]&(1<<j) != 0 }
	a := answer{lists: lists{ranks: make([]int, closure.N)}}
	everyList(closure.N, nil, func(list []int) {
		if len(list) == closure.N && pairwise(list, func(i, j int) bool { return !precedes(j, i) }) {
			a.count++
			if a.count == 1 {
				a.least = list
			}
		}
		if pairwise(list, precedes) && len(list) > 0 {
			if len(list) > len(a.chain) {
				a.chain = list
			}
			last := list[len(list)-1]
			a.ranks[last] = max(a.ranks[last], len(list)-1)
		}
		apart := func(i, j int) bool { return i < j && !precedes(i, j) && !precedes(j, i) }
		if pairwise(list, apart) && len(list) > len(a.apart) {
			a.apart = list
		}
	})
	return a
}

// naiveChains goes through all numberings with one number, with two, and so on.
func naiveChains(closure api.Rel) []int {
	precedes := func(i, j int) bool { return closure.After[i]&(1<<j) != 0 }
	for width := range closure.N + 1 {
		var found []int
		everyNumbering(closure.N, nil, func(list []int) bool {
			for _, number := range list {
				if number >= width {
					return false
				}
			}
			for number := range width {
				if !slices.Contains(list, number) {
					return false
				}
			}
			for i := range list {
				for j := range i {
					if list[i] == list[j] && !precedes(i, j) && !precedes(j, i) {
						return false
					}
				}
			}
			found = list
			return true
		})
		if len(found) == closure.N {
			return found
		}
	}
	return nil
}

// compare checks all functions against the naive ones.
func compare(t *testing.T, r api.Rel) {
	t.Helper()
	wanted, wantedCyclic := naiveClose(r)
	closure, cyclic, e := Close(r)
	if closure != wanted || cyclic != wantedCyclic || e != api.OK {
		t.Errorf("Close(%v) = %v, %t, %d; want %v, %t, 0", r, closure, cyclic, e, wanted, wantedCyclic)
	}
	if wantedCyclic {
		wantError(t, r, api.ErrNone)
		return
	}
	a := naiveLists(wanted)
	a.chains = naiveChains(wanted)
	wantLists(t, r, a.count, a.lists)
}

// fill returns the relation on n items whose rows are the bits of m.
func fill(n int, m uint) api.Rel {
	r := api.Rel{N: n}
	for i := range n {
		r.After[i] = uint16(m >> (i * n) & (1<<n - 1))
	}
	return r
}

// P1.1 to P1.4: all relations on at most three items.
func TestAllSmall(t *testing.T) {
	for n := range 4 {
		for m := range uint(1) << (n * n) {
			compare(t, fill(n, m))
		}
	}
}

// P1.1 to P1.4: all relations on four items in which none precedes itself directly.
func TestAllOfFour(t *testing.T) {
	const loops = 1<<0 | 1<<5 | 1<<10 | 1<<15
	for m := range uint(1) << 16 {
		if m&loops == 0 {
			compare(t, fill(4, m))
		}
	}
}

// P1.1 to P1.4: acyclic relations on five and six items, and some with a cycle.
func TestSomeLarger(t *testing.T) {
	random := rand.New(rand.NewPCG(1, 2))
	for k := range 400 {
		n := 5 + k%8/7
		density := random.Float64()
		position := random.Perm(n)
		r := api.Rel{N: n}
		for i := range n {
			for j := range n {
				if position[i] < position[j] && random.Float64() < density || random.IntN(100) == 0 {
					r.After[i] |= 1 << j
				}
			}
		}
		compare(t, r)
	}
}
