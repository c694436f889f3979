package day

import (
	"iter"
	"slices"

	"shotline/api"
	"shotline/check"
)

// grants is, for each right plan of a day, which wishes it grants.
type grants [][]bool

// SmallestClash returns the clash with the fewest members.
func SmallestClash(t api.DayTask) ([]int, api.Errno) {
	if e := checkWays(t); e != api.OK {
		return nil, e
	}
	g := grantsOf(t)
	// A set with the fewest members of which no right plan grants all is a clash: less are granted. If a wish has no slots,
	// it is found alone; otherwise there are at most 10 wishes, as there are no more ways.
	for members := range len(t.Wishes) {
		for set := range sets(len(t.Wishes), members+1) {
			if !g.have(set) {
				return set, api.OK
			}
		}
	}
	return nil, api.ErrNone
}

// CheckClash accepts a clash.
func CheckClash(t api.DayTask, set []int) api.Errno {
	if e := checkWays(t); e != api.OK {
		return e
	}
	if e := check.Each(set, func(wish int) api.Errno { return checkWish(t, wish) }); e != api.OK {
		return e
	}
	for i := range set {
		if i > 0 && set[i] <= set[i-1] {
			return api.ErrOrder
		}
	}
	g := grantsOf(t)
	if g.have(set) {
		return api.ErrProof
	}
	for i := range set {
		if !g.have(slices.Concat(set[:i], set[i+1:])) {
			return api.ErrClash
		}
	}
	return api.OK
}

func grantsOf(t api.DayTask) grants {
	var g grants
	for _, b := range rightPlans(t) {
		var granted []bool
		for wish := range b.Wishes {
			granted = append(granted, b.isGranted(wish))
		}
		g = append(g, granted)
	}
	return g
}

// have tells whether some right plan grants all wishes of a set.
func (g grants) have(set []int) bool {
	return slices.ContainsFunc(g, func(granted []bool) bool {
		return !slices.ContainsFunc(set, func(wish int) bool { return !granted[wish] })
	})
}

// sets yields all sets of so many of the numbers from 0 to n - 1, in lexicographical order.
func sets(n, members int) iter.Seq[[]int] {
	return func(yield func([]int) bool) {
		var set []int
		var addFrom func(first int) bool
		addFrom = func(first int) bool {
			if len(set) == members {
				return yield(slices.Clone(set))
			}
			for number := first; number < n; number++ {
				set = append(set, number)
				if !addFrom(number + 1) {
					return false
				}
				set = set[:len(set)-1]
			}
			return true
		}
		addFrom(0)
	}
}
