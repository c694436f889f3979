package tissue

import (
	"iter"

	"shotline/api"
	"shotline/check"
)

// task is a task whose leg is followed with a fineness.
type task struct {
	api.TissueTask
	fine int
}

// CheckTask returns the errors of the loads, the leg and the factor of a task.
func CheckTask(x api.TissueTask) api.Errno {
	return check.First(CheckLoads(x.Table, x.Loads), CheckLeg(x.Leg), checkFactor(x.Factor))
}

// Kept returns the answer of a task with a fineness.
func Kept(x api.TissueTask, fine int) (int, api.Errno) {
	if e := check.First(CheckTask(x), checkFine(fine)); e != api.OK {
		return 0, e
	}
	return task{x, fine}.answer(), api.OK
}

// Peaks returns for each compartment the greatest of its peaks on the leg of a task.
func Peaks(x api.TissueTask, fine int) ([]int, api.Errno) {
	if e := check.First(CheckTask(x), checkFine(fine)); e != api.OK {
		return nil, e
	}
	peaks := make([]int, len(x.Table))
	for ahead, behind := range (task{x, fine}).steps() {
		for i := range peaks {
			peaks[i] = max(peaks[i], peakOf(ahead.loads[i], behind.loads[i]))
		}
	}
	return peaks, api.OK
}

// Decided returns the answer of a task with the first fineness up to most that decides it, and this fineness.
func Decided(x api.TissueTask, most int) (int, int, api.Errno) {
	if e := check.First(CheckTask(x), checkFine(most)); e != api.OK {
		return 0, 0, e
	}
	for fine := range most + 1 {
		if answer := (task{x, fine}).answer(); answer != api.AnswerMaybe {
			return answer, fine, api.OK
		}
	}
	return api.AnswerMaybe, most, api.OK
}

// steps yields the states ahead of each step and behind it. The first step is one of no time at the mark 0: it tells of
// a leg that has no other one, and nothing new of all others.
func (x task) steps() iter.Seq2[state, state] {
	return func(yield func(ahead, behind state) bool) {
		var ahead state
		for at := range (course{x.Leg, x.Table, x.fine}).states(x.Loads) {
			if at.number == 0 {
				ahead = at
			}
			if !yield(ahead, at) {
				return
			}
			ahead = at
		}
	}
}

func (x task) answer() int {
	answer := api.AnswerYes
	for ahead, behind := range x.steps() {
		if keptAt(x.Table, behind.loads, behind.pressure.Hi, x.Factor) == api.AnswerNo {
			return api.AnswerNo
		}
		if !x.isKept(ahead, behind) {
			answer = api.AnswerMaybe
		}
	}
	return answer
}

// isKept tells whether limits are kept in all of a step.
func (x task) isKept(ahead, behind state) bool {
	pressure := pressuresOf(ahead.mark, behind.mark).Lo
	for i, c := range x.Table {
		if !limitOf(c, x.Factor).allows(peakOf(ahead.loads[i], behind.loads[i]), pressure) {
			return false
		}
	}
	return true
}

// peakOf returns the peak of a compartment in a step.
func peakOf(ahead, behind api.TissueLoad) int {
	return max(ahead.Nitrogen.Hi, behind.Nitrogen.Hi) + max(ahead.Helium.Hi, behind.Helium.Hi)
}
