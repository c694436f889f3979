package site

import (
	"slices"

	"shotline/api"
	"shotline/check"
)

// CheckWindows returns ErrLarge if there are too many windows, then the first error of one.
func CheckWindows(l []api.Range) api.Errno {
	if len(l) > api.MaxWindows {
		return api.ErrLarge
	}
	for i, w := range l {
		if e := checkEnds(w); e != api.OK {
			return e
		}
		if i > 0 && w.Lo <= l[i-1].Hi+1 {
			return api.ErrClash
		}
	}
	return api.OK
}

// Meet returns the windows of the minutes that are in both of two lists.
func Meet(a, b []api.Range) ([]api.Range, api.Errno) {
	return combined(a, b, func(inA, inB bool) bool { return inA && inB })
}

// Join returns the windows of the minutes that are in one of two lists, or in both.
func Join(a, b []api.Range) ([]api.Range, api.Errno) {
	return combined(a, b, func(inA, inB bool) bool { return inA || inB })
}

// Longer returns the windows that have at least so many minutes.
func Longer(l []api.Range, minutes int) ([]api.Range, api.Errno) {
	if e := check.First(CheckWindows(l), checkLength(minutes)); e != api.OK {
		return nil, e
	}
	var longer []api.Range
	for _, w := range l {
		if minutesIn(w) >= minutes {
			longer = append(longer, w)
		}
	}
	return longer, api.OK
}

// FirstFit returns the first minute, at least from, that begins so many minutes of one window.
func FirstFit(l []api.Range, from, minutes int) (int, api.Errno) {
	if e := check.First(CheckWindows(l), checkMinute(from), checkLength(minutes)); e != api.OK {
		return 0, e
	}
	for _, w := range l {
		first := max(from, w.Lo)
		if first+minutes-1 <= w.Hi {
			return first, api.OK
		}
	}
	return 0, api.ErrNone
}

// checkLength returns the error of a number of minutes.
func checkLength(minutes int) api.Errno {
	return check.Range(minutes, 1, api.MaxSiteMinute)
}

// combined returns the windows of the minutes for which a condition holds of whether they are in a, and in b.
func combined(a, b []api.Range, is func(inA, inB bool) bool) ([]api.Range, api.Errno) {
	if e := check.First(CheckWindows(a), CheckWindows(b)); e != api.OK {
		return nil, e
	}
	var marks []int
	for _, w := range slices.Concat(a, b) {
		marks = append(marks, w.Lo, w.Hi+1)
	}
	slices.Sort(marks)
	return windowsOf(marks, func(minute int) bool { return is(isIn(a, minute), isIn(b, minute)) })
}

// isIn tells whether a minute is in one of some windows.
func isIn(l []api.Range, minute int) bool {
	return slices.ContainsFunc(l, func(w api.Range) bool { return check.Within(minute, w.Lo, w.Hi) })
}

// windowsIn returns the windows of the minutes of a span for which a condition holds.
func windowsIn(span api.Range, is func(minute int) bool) ([]api.Range, api.Errno) {
	var marks []int
	for minute := span.Lo; minute <= span.Hi+1; minute++ {
		marks = append(marks, minute)
	}
	return windowsOf(marks, func(minute int) bool { return minute <= span.Hi && is(minute) })
}

// windowsOf returns the windows of the minutes for which a condition holds. It changes at marks alone, which ascend, and
// holds neither ahead of the first one nor from the last one on.
func windowsOf(marks []int, is func(minute int) bool) ([]api.Range, api.Errno) {
	var l []api.Range
	open := false
	for _, mark := range marks {
		holds := is(mark)
		switch {
		case holds && !open:
			l = append(l, api.Range{Lo: mark})
		case !holds && open:
			l[len(l)-1].Hi = mark - 1
		}
		open = holds
	}
	if len(l) > api.MaxWindows {
		return nil, api.ErrLarge
	}
	return l, api.OK
}
