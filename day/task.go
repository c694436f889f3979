package day

import (
	"slices"

	"shotline/api"
	"shotline/check"
)

const (
	// mostGas is the most gas of a day: as much as all wishes may need.
	mostGas = api.MaxWishes * api.MaxDayGas
	// leftOut is the new number of a slot that is left out.
	leftOut = -1
)

// CheckTask returns the error of a day, and the number of the slot, diver or wish whose error it is.
func CheckTask(t api.DayTask) (int, api.Errno) {
	if number, e := checkSlots(t); e != api.OK {
		return number, e
	}
	if number, e := checkDivers(t); e != api.OK {
		return number, e
	}
	if number, e := checkWishes(t); e != api.OK {
		return number, e
	}
	return 0, checkRules(t.Rules)
}

// Without returns a day without a slot, and the new number of each slot.
func Without(t api.DayTask, slot int) (api.DayTask, []int, api.Errno) {
	if _, e := CheckTask(t); e != api.OK {
		return api.DayTask{}, nil, e
	}
	if e := checkSlot(t, slot); e != api.OK {
		return api.DayTask{}, nil, e
	}
	numbers := numbersWithout(len(t.Slots), slot)
	less := api.DayTask{
		Slots:  slices.Delete(slices.Clone(t.Slots), slot, slot+1),
		Divers: slices.Clone(t.Divers),
		Wishes: slices.Clone(t.Wishes),
		Rules:  t.Rules,
	}
	for wish, w := range t.Wishes {
		less.Wishes[wish].Slots = renumbered(w.Slots, numbers)
	}
	return less, numbers, api.OK
}

// numbersWithout returns the new numbers of so many slots, of which one is left out.
func numbersWithout(slots, out int) []int {
	var numbers []int
	for slot := range slots {
		switch {
		case slot < out:
			numbers = append(numbers, slot)
		case slot == out:
			numbers = append(numbers, leftOut)
		default:
			numbers = append(numbers, slot-1)
		}
	}
	return numbers
}

// renumbered returns slots by their new numbers, without the one that is left out.
func renumbered(slots, numbers []int) []int {
	var left []int
	for _, slot := range slots {
		if numbers[slot] != leftOut {
			left = append(left, numbers[slot])
		}
	}
	return left
}

func checkSlots(t api.DayTask) (int, api.Errno) {
	if len(t.Slots) > api.MaxSlots {
		return 0, api.ErrLarge
	}
	nameError := check.Names()
	return check.Numbered(t.Slots, func(_ int, s api.DaySlot) api.Errno {
		e := check.First(
			nameError(s.Name),
			checkMinute(s.From),
			checkMinute(s.To),
			check.Range(s.Seats, 1, api.MaxDivers),
			checkLevel(s.Level),
		)
		if e == api.OK && s.From > s.To {
			return api.ErrOrder
		}
		return e
	})
}

func checkDivers(t api.DayTask) (int, api.Errno) {
	if len(t.Divers) > api.MaxDivers {
		return 0, api.ErrLarge
	}
	nameError := check.Names()
	return check.Numbered(t.Divers, func(number int, d api.DayDiver) api.Errno {
		return check.First(nameError(d.Name), checkLevel(d.Level), checkBuddy(t, number, d.Buddy))
	})
}

func checkBuddy(t api.DayTask, diver, buddy int) api.Errno {
	switch {
	case buddy == noBuddy:
		return api.OK
	case buddy == diver:
		return api.ErrForm
	}
	return checkDiver(t, buddy)
}

func checkWishes(t api.DayTask) (int, api.Errno) {
	if len(t.Wishes) > api.MaxWishes {
		return 0, api.ErrLarge
	}
	return check.Numbered(t.Wishes, func(_ int, w api.DayWish) api.Errno {
		return check.First(
			checkDiver(t, w.Diver),
			checkNamed(t, w.Slots),
			check.Range(w.Value, 1, api.MaxDayValue),
			check.Range(w.Gas, 0, api.MaxDayGas),
		)
	})
}

// checkNamed returns the error of the slots that a wish names.
func checkNamed(t api.DayTask, slots []int) api.Errno {
	_, e := check.Numbered(slots, func(number, slot int) api.Errno {
		e := checkSlot(t, slot)
		if e == api.OK && slices.Contains(slots[:number], slot) {
			return api.ErrExists
		}
		return e
	})
	return e
}

func checkRules(r api.DayRules) api.Errno {
	return check.First(
		checkLevel(r.Guide),
		checkLevel(r.Novice),
		checkLevel(r.Ratio),
		checkMinute(r.Gap),
		check.Range(r.Gas, 0, mostGas),
	)
}

func checkMinute(minute int) api.Errno {
	return check.Range(minute, 0, api.MaxDayMinute)
}

func checkLevel(level int) api.Errno {
	return check.Range(level, 0, api.MaxDayLevel)
}

// checkSlot, checkDiver and checkWish return ErrMissing if there is none with a number.
func checkSlot(t api.DayTask, slot int) api.Errno {
	return checkNumber(slot, len(t.Slots))
}

func checkDiver(t api.DayTask, diver int) api.Errno {
	return checkNumber(diver, len(t.Divers))
}

func checkWish(t api.DayTask, wish int) api.Errno {
	return checkNumber(wish, len(t.Wishes))
}

// checkNumber returns ErrMissing if a number is none of so many things, which are counted from 0 on.
func checkNumber(number, things int) api.Errno {
	if !check.Within(number, 0, things-1) {
		return api.ErrMissing
	}
	return api.OK
}
