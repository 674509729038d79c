package spans

import (
	"math/rand/v2"
	"testing"

	"alibi/api"
)

// naiveOf compares all pairs of times of each two intervals.
func naiveOf(l []api.Span) api.Rel {
	r := api.Rel{N: len(l)}
	for i := range l {
		for j := range l {
			earlier := true
			for s := l[i].From; s <= l[i].To; s++ {
				for u := l[j].From; u <= l[j].To; u++ {
					earlier = earlier && s < u
				}
			}
			if earlier {
				r.After[i] |= 1 << j
			}
		}
	}
	return r
}

// everyList visits all lists of n intervals with ends below the limit.
func everyList(n, limit int, l []api.Span, visit func([]api.Span)) {
	if len(l) == n {
		visit(l)
		return
	}
	for from := range limit {
		for to := from; to < limit; to++ {
			everyList(n, limit, append(l[:len(l):len(l)], api.Span{From: from, To: to}), visit)
		}
	}
}

// naiveMake takes the document at its word: the number of a set is the number of the smaller sets.
func naiveMake(r api.Rel) []api.Span {
	before := make([]uint16, r.N)
	sets := map[uint16]bool{}
	for j := range r.N {
		for i := range r.N {
			if r.After[i]&(1<<j) != 0 {
				before[j] |= 1 << i
			}
		}
		sets[before[j]] = true
	}
	number := func(set uint16) int {
		n := 0
		for other := range sets {
			if other != set && other&set == other {
				n++
			}
		}
		return n
	}
	l := make([]api.Span, r.N)
	for i := range l {
		l[i].From = number(before[i])
		for set := range sets {
			if set&(1<<i) == 0 {
				l[i].To = max(l[i].To, number(set))
			}
		}
	}
	return l
}

// naiveMeets counts the intervals at every time.
func naiveMeets(l []api.Span) (int, int) {
	counts := make([]int, 100)
	for _, s := range l {
		for time := s.From; time <= s.To; time++ {
			counts[time]++
		}
	}
	best := 0
	for time, n := range counts {
		if n > counts[best] {
			best = time
		}
	}
	return best, counts[best]
}

// compare checks the functions on intervals, and Make on the relation of the intervals.
func compare(t *testing.T, l []api.Span) {
	t.Helper()
	r := naiveOf(l)
	wantOf(t, l, r)
	wantMake(t, r, naiveMake(r), api.OK)
	wantOf(t, naiveMake(r), r)
	wantMeets(t, l, first(naiveMeets(l)), second(naiveMeets(l)))
}

func first(a, _ int) int { return a }

func second(_, b int) int { return b }

// P2.1 and P2.3: all lists of at most three short intervals.
func TestAllSmall(t *testing.T) {
	for n := range 4 {
		everyList(n, 5, nil, func(l []api.Span) { compare(t, l) })
	}
}

// P2.2: Make finds exactly the relations, on at most four items, that some intervals generate.
func TestAllRelations(t *testing.T) {
	for n := range 5 {
		generated := map[api.Rel]bool{}
		// The n items have at most n sets of predecessors, so ends below n would do; two more show that they do.
		everyList(n, n+2, nil, func(l []api.Span) { generated[naiveOf(l)] = true })
		for m := range uint(1) << (n * n) {
			r := api.Rel{N: n}
			for i := range n {
				r.After[i] = uint16(m >> (i * n) & (1<<n - 1))
			}
			if generated[r] {
				wantMake(t, r, naiveMake(r), api.OK)
			} else {
				wantMake(t, r, nil, api.ErrNone)
			}
		}
	}
}

// P2.1 to P2.3: up to 12 intervals, and their relation with one pair changed.
func TestSomeLarger(t *testing.T) {
	random := rand.New(rand.NewPCG(3, 4))
	for range 2000 {
		l := make([]api.Span, 4+random.IntN(9))
		limit := 3 + random.IntN(40)
		for i := range l {
			l[i].From = random.IntN(limit)
			l[i].To = l[i].From + random.IntN(1+random.IntN(limit))
		}
		compare(t, l)
		r := naiveOf(l)
		r.After[random.IntN(len(l))] ^= 1 << random.IntN(len(l))
		if impossible(r) {
			wantMake(t, r, nil, api.ErrNone)
		} else {
			wantMake(t, r, naiveMake(r), api.OK)
			wantOf(t, naiveMake(r), r)
		}
	}
}

// impossible reports whether an item precedes itself, or i precedes j and k precedes l, but neither i precedes l nor k precedes j.
func impossible(r api.Rel) bool {
	precedes := func(i, j int) bool { return r.After[i]&(1<<j) != 0 }
	for i := range r.N {
		for j := range r.N {
			for k := range r.N {
				for l := range r.N {
					if precedes(i, j) && precedes(k, l) && !precedes(i, l) && !precedes(k, j) {
						return true
					}
				}
			}
		}
		if precedes(i, i) {
			return true
		}
	}
	return false
}
