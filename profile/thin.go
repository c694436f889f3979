package profile

import (
	"iter"
	"slices"

	"shotline/api"
)

// Thin returns a right kept list with as few points as possible, and labels that prove that there are no fewer.
func Thin(l []api.DivePoint, most int) ([]int, []int, api.Errno) {
	if e := checkThinning(l, most); e != api.OK {
		return nil, nil, e
	}
	labels := make([]int, len(l))
	before := make([]int, len(l))
	for i := range labels {
		labels[i], before[i] = i, i-1
	}
	for from, to := range steps(l, most) {
		if labels[from]+1 < labels[to] {
			labels[to], before[to] = labels[from]+1, from
		}
	}
	var kept []int
	for i := len(l) - 1; i >= 0; i = before[i] {
		kept = append(kept, i)
	}
	slices.Reverse(kept)
	return kept, labels, api.OK
}

// CheckThin returns the number of points of a right kept list.
func CheckThin(l []api.DivePoint, most int, kept []int) (int, api.Errno) {
	if e := checkThinning(l, most); e != api.OK {
		return 0, e
	}
	if e := checkKept(kept, len(l)); e != api.OK {
		return 0, e
	}
	for i := range len(kept) - 1 {
		if !isAllowed(l, most, kept[i], kept[i+1]) {
			return 0, api.ErrBreak
		}
	}
	return len(kept), api.OK
}

// CheckLabels returns the bound of right labels: no right kept list has fewer points.
func CheckLabels(l []api.DivePoint, most int, labels []int) (int, api.Errno) {
	if e := checkThinning(l, most); e != api.OK {
		return 0, e
	}
	if len(labels) != len(l) {
		return 0, api.ErrShape
	}
	for _, n := range labels {
		if !within(n, 0, api.MaxPoints) {
			return 0, api.ErrRange
		}
	}
	if labels[0] != 0 {
		return 0, api.ErrProof
	}
	for from, to := range steps(l, most) {
		if labels[to] > labels[from]+1 {
			return 0, api.ErrProof
		}
	}
	return labels[len(l)-1] + 1, api.OK
}

func checkThinning(l []api.DivePoint, most int) api.Errno {
	if e := CheckPoints(l); e != api.OK {
		return e
	}
	if !isDepth(most) {
		return api.ErrRange
	}
	return api.OK
}

// checkKept returns the error of a kept list of so many points, but for its steps.
func checkKept(kept []int, points int) api.Errno {
	for _, k := range kept {
		if !within(k, 0, points-1) {
			return api.ErrMissing
		}
	}
	for i := range kept {
		if i > 0 && kept[i] <= kept[i-1] {
			return api.ErrOrder
		}
	}
	if len(kept) == 0 || kept[0] != 0 || kept[len(kept)-1] != points-1 {
		return api.ErrShape
	}
	return api.OK
}

// steps yields the allowed steps; those to a point come behind all steps to points before it, so that what is
// found of these is final when a step begins there.
func steps(l []api.DivePoint, most int) iter.Seq2[int, int] {
	return func(yield func(int, int) bool) {
		for to := range len(l) {
			for from := range to {
				if isAllowed(l, most, from, to) && !yield(from, to) {
					return
				}
			}
		}
	}
}

// isAllowed tells whether a step from a point to a later one is allowed.
func isAllowed(l []api.DivePoint, most, from, to int) bool {
	for _, x := range l[from+1 : to] {
		if between(l[from], l[to], x.Second).apart(x.Depth).Hi > most {
			return false
		}
	}
	return true
}
