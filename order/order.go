// Package order works with strict partial orders on at most 12 items: see doc/01-order.md.
package order

import (
	"math/bits"

	"alibi/api"
)

// Check validates a relation.
func Check(r api.Rel) api.Errno {
	if r.N < 0 || r.N > api.MaxItems {
		return api.ErrArg
	}
	for i, after := range r.After {
		if after&^firstItems(r.N) != 0 || i >= r.N && after != 0 {
			return api.ErrForm
		}
	}
	return api.OK
}

// Close returns the transitive closure, and whether some item precedes itself in it.
func Close(r api.Rel) (api.Rel, bool, api.Errno) {
	if e := Check(r); e != api.OK {
		return api.Rel{}, false, e
	}
	closure := r
	for via := range r.N {
		for i := range r.N {
			if has(closure.After[i], via) {
				closure.After[i] |= closure.After[via]
			}
		}
	}
	cyclic := false
	for i := range r.N {
		cyclic = cyclic || has(closure.After[i], i)
	}
	return closure, cyclic, api.OK
}

// Least returns the lexicographically smallest linear extension.
func Least(r api.Rel) ([]int, api.Errno) {
	closure, e := closeAcyclic(r)
	if e != api.OK {
		return nil, e
	}
	before := reverse(closure)
	extension := make([]int, 0, r.N)
	done := uint16(0)
	for range r.N {
		next := bits.TrailingZeros16(ready(before, done))
		extension = append(extension, next)
		done |= 1 << next
	}
	return extension, api.OK
}

// Count returns the number of linear extensions.
func Count(r api.Rel) (int, api.Errno) {
	closure, e := closeAcyclic(r)
	if e != api.OK {
		return 0, e
	}
	before := reverse(closure)
	// ways[s] is the number of orders in which the items of s can be the first ones.
	ways := make([]int, 1<<r.N)
	ways[0] = 1
	for done := range ways {
		next := ready(before, uint16(done))
		for i := range r.N {
			if has(next, i) {
				ways[done|1<<i] += ways[done]
			}
		}
	}
	return ways[len(ways)-1], api.OK
}

// Chain returns the lexicographically smallest of the longest chains.
func Chain(r api.Rel) ([]int, api.Errno) {
	closure, e := closeAcyclic(r)
	if e != api.OK {
		return nil, e
	}
	lengths := longest(closure)
	rest := 0
	for _, n := range lengths {
		rest = max(rest, n)
	}
	chain := make([]int, 0, rest)
	candidates := firstItems(r.N)
	for ; rest > 0; rest-- {
		for i := range r.N {
			if has(candidates, i) && lengths[i] == rest {
				chain = append(chain, i)
				candidates = closure.After[i]
				break
			}
		}
	}
	return chain, api.OK
}

// Apart returns the lexicographically smallest of the longest antichains.
func Apart(r api.Rel) ([]int, api.Errno) {
	closure, e := closeAcyclic(r)
	if e != api.OK {
		return nil, e
	}
	set := widest(closure)
	antichain := make([]int, 0, bits.OnesCount16(set))
	for i := range r.N {
		if has(set, i) {
			antichain = append(antichain, i)
		}
	}
	return antichain, api.OK
}

// Ranks returns, for each item, the number of items before it in the longest chain that ends with it.
func Ranks(r api.Rel) ([]int, api.Errno) {
	closure, e := closeAcyclic(r)
	if e != api.OK {
		return nil, e
	}
	lengths := longest(reverse(closure))
	ranks := make([]int, r.N)
	for i := range ranks {
		ranks[i] = lengths[i] - 1
	}
	return ranks, api.OK
}

// Chains returns the lexicographically smallest partition into as few chains as possible.
func Chains(r api.Rel) ([]int, api.Errno) {
	closure, e := closeAcyclic(r)
	if e != api.OK {
		return nil, e
	}
	before := reverse(closure)
	p := partition{
		// By Dilworth's theorem this number of chains suffices, and no smaller one does.
		chains:  make([]uint16, bits.OnesCount16(widest(closure))),
		numbers: make([]int, r.N),
	}
	for i := range r.N {
		p.related[i] = closure.After[i] | before.After[i]
	}
	p.place(0)
	return p.numbers, api.OK
}

// A partition assigns the first items to chains.
type partition struct {
	related [api.MaxItems]uint16 // the items that precede an item or come after it
	chains  []uint16             // the items of each chain
	numbers []int                // the chain of each item
}

// place assigns the item and all later ones, each to the smallest possible
// chain, and reports whether it is possible with the items before as they are.
func (p *partition) place(item int) bool {
	if item == len(p.numbers) {
		return true
	}
	for k, chain := range p.chains {
		if chain&^p.related[item] != 0 {
			continue
		}
		p.numbers[item] = k
		p.chains[k] = chain | 1<<item
		if p.place(item + 1) {
			return true
		}
		p.chains[k] = chain
		if chain == 0 {
			// The chains after it are empty as well, and no better.
			return false
		}
	}
	return false
}

// closeAcyclic returns the closure; a cyclic relation is an error.
func closeAcyclic(r api.Rel) (api.Rel, api.Errno) {
	closure, cyclic, e := Close(r)
	if e != api.OK {
		return api.Rel{}, e
	}
	if cyclic {
		return api.Rel{}, api.ErrNone
	}
	return closure, api.OK
}

// reverse returns the relation in which every item precedes those that preceded it.
func reverse(r api.Rel) api.Rel {
	reversed := api.Rel{N: r.N}
	for i := range r.N {
		for j := range r.N {
			if has(r.After[i], j) {
				reversed.After[j] |= 1 << i
			}
		}
	}
	return reversed
}

// ready returns the items that are not done and preceded only by items that are.
func ready(before api.Rel, done uint16) uint16 {
	set := uint16(0)
	for i := range before.N {
		if !has(done, i) && before.After[i]&^done == 0 {
			set |= 1 << i
		}
	}
	return set
}

// longest returns, for each item, the length of the longest chain that starts with it.
func longest(closure api.Rel) [api.MaxItems]int {
	var lengths [api.MaxItems]int
	// Each round gets the chains right that are one item longer.
	for range closure.N {
		for i := range closure.N {
			lengths[i] = 1
			for j := range closure.N {
				if has(closure.After[i], j) {
					lengths[i] = max(lengths[i], lengths[j]+1)
				}
			}
		}
	}
	return lengths
}

// widest returns the items of the lexicographically smallest of the longest antichains.
func widest(closure api.Rel) uint16 {
	best := uint16(0)
	for set := range uint16(1) << closure.N {
		if comesBefore(set, best) && isAntichain(closure, set) {
			best = set
		}
	}
	return best
}

// comesBefore reports whether the increasing list of the items of a is longer
// than that of b, or of the same length and lexicographically smaller.
func comesBefore(a, b uint16) bool {
	if m, n := bits.OnesCount16(a), bits.OnesCount16(b); m != n {
		return m > n
	}
	differences := a ^ b
	return differences != 0 && has(a, bits.TrailingZeros16(differences))
}

// isAntichain reports whether no item of the set precedes another one.
func isAntichain(closure api.Rel, set uint16) bool {
	for i := range closure.N {
		if has(set, i) && closure.After[i]&set != 0 {
			return false
		}
	}
	return true
}

// firstItems returns the set of the items 0 to n - 1.
func firstItems(n int) uint16 {
	return 1<<n - 1
}

// has reports whether the item is in the set.
func has(set uint16, item int) bool {
	return set>>item&1 != 0
}
