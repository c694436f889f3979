package day

import (
	"cmp"
	"iter"
	"slices"

	"shotline/api"
	"shotline/check"
)

// BestPlan returns the right plan with the greatest value, its value, and a tree that proves that none has a greater one.
func BestPlan(t api.DayTask) ([]int, int, []api.DayNode, api.Errno) {
	if e := checkWays(t); e != api.OK {
		return nil, 0, nil, e
	}
	best := firstRight(t, byValue)
	value := best.value()
	return best.plan, value, provedFor(t, value), api.OK
}

// Reschedule returns the right plan with the fewest changes of an old plan, and their number.
func Reschedule(t api.DayTask, old []int) ([]int, int, api.Errno) {
	if e := checkWays(t); e != api.OK {
		return nil, 0, e
	}
	if len(old) != len(t.Wishes) {
		return nil, 0, api.ErrShape
	}
	if e := check.Each(old, checkDecision); e != api.OK {
		return nil, 0, e
	}
	best := firstRight(t, func(a, b board) int {
		return cmp.Or(cmp.Compare(a.changes(old), b.changes(old)), byValue(a, b))
	})
	return best.plan, best.changes(old), api.OK
}

// checkWays returns the error of a day, or ErrLarge if it has too many ways.
func checkWays(t api.DayTask) api.Errno {
	if _, e := CheckTask(t); e != api.OK {
		return e
	}
	ways := 1
	for _, w := range t.Wishes {
		ways *= len(decisions(w))
		if ways > api.MaxDayWays {
			return api.ErrLarge
		}
	}
	return api.OK
}

// decisions returns how a wish may be decided, in the order of the branches of a split.
func decisions(w api.DayWish) []int {
	return append([]int{notGranted}, w.Slots...)
}

// plans yields the boards of all plans of a day, in lexicographical order.
func plans(t api.DayTask) iter.Seq[board] {
	return func(yield func(board) bool) {
		b := emptyBoard(t)
		var decideFrom func(wish int) bool
		decideFrom = func(wish int) bool {
			if wish == len(t.Wishes) {
				return yield(board{t, slices.Clone(b.plan)})
			}
			for _, slot := range slices.Sorted(slices.Values(decisions(t.Wishes[wish]))) {
				b.plan[wish] = slot
				if !decideFrom(wish + 1) {
					return false
				}
			}
			return true
		}
		decideFrom(0)
	}
}

// rightPlans returns the boards of all right plans of a day, in lexicographical order. There is one at least: it grants
// nothing.
func rightPlans(t api.DayTask) []board {
	var right []board
	for b := range plans(t) {
		if _, e := b.breaks(); e == api.OK {
			right = append(right, b)
		}
	}
	return right
}

// firstRight returns the right plan that comes first by an order, of several ones the lexicographically first one.
func firstRight(t api.DayTask, compare func(a, b board) int) board {
	return slices.MinFunc(rightPlans(t), compare)
}

// byValue puts the plan with the greater value first.
func byValue(a, b board) int {
	return cmp.Compare(b.value(), a.value())
}

// changes returns how many wishes have another number than in an old plan.
func (b board) changes(old []int) int {
	count := 0
	for wish, slot := range b.plan {
		if slot != old[wish] {
			count++
		}
	}
	return count
}
