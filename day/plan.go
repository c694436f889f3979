package day

import (
	"slices"

	"shotline/api"
	"shotline/check"
)

// CheckPlan returns the value of a right plan; or, beside the error of a plan, what is named.
func CheckPlan(t api.DayTask, plan []int) (int, int, api.Errno) {
	b, number, e := rightPlan(t, plan)
	if e != api.OK {
		return 0, number, e
	}
	return b.value(), 0, api.OK
}

// Hard returns the error of the first hard rule that a plan breaks, and what is named.
func Hard(t api.DayTask, plan []int) (int, api.Errno) {
	b, number, e := planOf(t, plan)
	if e != api.OK {
		return number, e
	}
	return b.breaksHard()
}

// Roster returns the names of the divers in a slot.
func Roster(t api.DayTask, plan []int, slot int) ([]string, api.Errno) {
	b, _, e := rightPlan(t, plan)
	if e := check.First(e, checkSlot(t, slot)); e != api.OK {
		return nil, e
	}
	var names []string
	for _, diver := range b.inSlot(slot, func(int) bool { return true }) {
		names = append(names, b.Divers[diver].Name)
	}
	return names, api.OK
}

// Seats returns the seats that are left in each slot.
func Seats(t api.DayTask, plan []int) ([]int, api.Errno) {
	b, _, e := rightPlan(t, plan)
	if e != api.OK {
		return nil, e
	}
	var seats []int
	for slot := range b.Slots {
		seats = append(seats, b.seatsLeft(slot))
	}
	return seats, api.OK
}

// GasLeft returns the gas that is left.
func GasLeft(t api.DayTask, plan []int) (int, api.Errno) {
	b, _, e := rightPlan(t, plan)
	if e != api.OK {
		return 0, e
	}
	return b.gasLeft(), api.OK
}

// FreeFor returns the slots in which a wish may be granted, the others as they are.
func FreeFor(t api.DayTask, plan []int, wish int) ([]int, api.Errno) {
	b, _, e := rightPlan(t, plan)
	if e := check.First(e, checkWish(t, wish)); e != api.OK {
		return nil, e
	}
	var free []int
	for _, slot := range b.Wishes[wish].Slots {
		if _, e := b.with(wish, slot).breaks(); e == api.OK {
			free = append(free, slot)
		}
	}
	return free, api.OK
}

// Grant returns a plan with another number, at[1], for the wish at[0].
func Grant(t api.DayTask, plan []int, at [2]int) ([]int, api.Errno) {
	b, _, e := rightPlan(t, plan)
	if e := check.First(e, checkWish(t, at[0])); e != api.OK {
		return nil, e
	}
	after, _, e := rightPlan(t, b.with(at[0], at[1]).plan)
	return after.plan, e
}

// Moves returns the wishes that have different numbers in two plans, each one with both of them.
func Moves(old, now []int) ([][3]int, api.Errno) {
	if len(old) != len(now) || len(old) > api.MaxWishes {
		return nil, api.ErrShape
	}
	if e := check.First(check.Each(old, checkDecision), check.Each(now, checkDecision)); e != api.OK {
		return nil, e
	}
	var moves [][3]int
	for wish, slot := range old {
		if now[wish] != slot {
			moves = append(moves, [3]int{wish, slot, now[wish]})
		}
	}
	return moves, api.OK
}

// rightPlan returns the board of a right plan; or, beside the error of a day or of a plan, what is named.
func rightPlan(t api.DayTask, plan []int) (board, int, api.Errno) {
	b, number, e := planOf(t, plan)
	if e != api.OK {
		return board{}, number, e
	}
	if number, e := b.breaks(); e != api.OK {
		return board{}, number, e
	}
	return b, 0, api.OK
}

// planOf returns the board of a plan, whatever rules it breaks; or, beside the error of a day or of the form of a plan, what
// is named.
func planOf(t api.DayTask, plan []int) (board, int, api.Errno) {
	if _, e := CheckTask(t); e != api.OK {
		return board{}, 0, e
	}
	if len(plan) != len(t.Wishes) {
		return board{}, 0, api.ErrShape
	}
	wish, e := check.Numbered(plan, func(wish, slot int) api.Errno {
		if slot != notGranted && !slices.Contains(t.Wishes[wish].Slots, slot) {
			return api.ErrMissing
		}
		return api.OK
	})
	if e != api.OK {
		return board{}, wish, e
	}
	return board{t, slices.Clone(plan)}, 0, api.OK
}

// checkDecision returns ErrRange if a number is none of a plan of any day.
func checkDecision(slot int) api.Errno {
	return check.Range(slot, notGranted, api.MaxSlots-1)
}
