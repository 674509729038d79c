package object

import (
	"math/rand/v2"
	"slices"
	"testing"

	"alibi/api"
)

// naiveStep performs an operation of a valid state; false if it is not possible.
func naiveStep(typ int, s []int, kind, arg int) ([]int, int, bool) {
	if !slices.Contains(kinds(typ), kind) || isPlain(kind) != (arg == 0) || arg < 0 || arg > 1000 {
		return nil, 0, false
	}
	rest := []int{}
	for _, element := range s {
		if element != arg {
			rest = append(rest, element)
		}
	}
	has := 0
	if len(rest) < len(s) {
		has = 1
	}
	n, result := slices.Clone(s), 0
	switch kind {
	case api.KWrite:
		n = []int{arg}
	case api.KRead:
		result = s[0]
	case api.KEnq, api.KPush:
		n = append(n, arg)
	case api.KDeq, api.KPop:
		if len(s) == 0 {
			return n, -1, true
		}
		at := 0
		if kind == api.KPop {
			at = len(s) - 1
		}
		result, n = s[at], slices.Delete(n, at, at+1)
	case api.KAdd:
		n, result = append(rest, arg), 1-has
		slices.Sort(n)
	case api.KRemove:
		n, result = rest, has
	case api.KHas:
		result = has
	case api.KTake:
		n, result = []int{s[0] + 1}, s[0]
	}
	return n, result, len(n) <= 50 && canCount(typ, n)
}

// canCount reports whether the new number of a ticket counter is one that it can have.
func canCount(typ int, n []int) bool {
	return typ != api.TTicket || n[0] <= 1000
}

// naiveCheck returns what Check returns for a type that there is.
func naiveCheck(typ int, s []int) api.Errno {
	if len(s) > 50 {
		return api.ErrLarge
	}
	least := 1
	if typ == api.TReg || typ == api.TTicket {
		least = 0
		if len(s) != 1 {
			return api.ErrForm
		}
	}
	for _, element := range s {
		if element < least || element > 1000 {
			return api.ErrForm
		}
	}
	if typ == api.TSet && !slices.Equal(s, slices.Compact(slices.Sorted(slices.Values(s)))) {
		return api.ErrForm
	}
	return api.OK
}

// compareStep compares Check and Step with the naive ones.
func compareStep(t *testing.T, typ int, s []int, kind, arg int) {
	t.Helper()
	want := naiveCheck(typ, s)
	wantCheck(t, typ, s, want)
	if want != api.OK {
		wantStepError(t, typ, s, kind, arg, want)
		return
	}
	n, result, ok := naiveStep(typ, s, kind, arg)
	if ok {
		wantStep(t, typ, s, kind, arg, n, result)
		wantCheck(t, typ, n, api.OK)
		return
	}
	if _, _, e := Step(typ, s, kind, arg); e != api.ErrForm && e != api.ErrLarge {
		t.Errorf("Step(%d, %v, %d, %d): %d", typ, s, kind, arg, e)
	}
}

// P4.1, P4.2: all states of at most four small elements, all operations and small arguments.
func TestAllSmall(t *testing.T) {
	states := [][]int{{}}
	for at := 0; at < len(states); at++ {
		if len(states[at]) < 4 {
			for element := -1; element <= 4; element++ {
				states = append(states, append(slices.Clone(states[at]), element))
			}
		}
	}
	for typ := api.TReg; typ <= api.TTicket; typ++ {
		for _, s := range states {
			for kind := -1; kind <= 11; kind++ {
				for arg := -1; arg <= 5; arg++ {
					compareStep(t, typ, s, kind, arg)
				}
			}
		}
	}
}

// P4.2, P4.3: long lists of operations, one of them with another result.
func TestLongLists(t *testing.T) {
	r := rand.New(rand.NewPCG(4, 3))
	for range 2000 {
		typ := r.IntN(5) + 1
		s, _ := Start(typ)
		var l []api.Do
		for len(l) < 120 {
			kind := kinds(typ)[r.IntN(len(kinds(typ)))*r.IntN(3)%len(kinds(typ))]
			arg := 0
			if !isPlain(kind) {
				arg = r.IntN(70) + 1
			}
			compareStep(t, typ, s, kind, arg)
			n, result, ok := naiveStep(typ, s, kind, arg)
			if !ok {
				break
			}
			l, s = append(l, api.Do{Kind: kind, Arg: arg, Res: result}), n
		}
		wantPlay(t, typ, l, len(l), api.OK)
		at := r.IntN(len(l))
		l[at].Res += 1 - 2*r.IntN(2)
		wantPlay(t, typ, l, at, api.OK)
	}
}
