package profile_test

import (
	"math"
	"slices"
	"testing"

	"shotline/api"
	"shotline/profile"
)

var four = points(0, 0, 10, 100, 20, 190, 30, 300)

// isAllowed tells whether a step is allowed, by exact fractions.
func isAllowed(l []api.DivePoint, most, from, to int) bool {
	for _, x := range l[from+1 : to] {
		off := onLine(l[from], l[to], rat(x.Second, 1))
		off.Sub(off, rat(x.Depth, 1))
		if off.Abs(off).Cmp(rat(most, 1)) > 0 {
			return false
		}
	}
	return true
}

// isRightKept tells whether a kept list is right.
func isRightKept(l []api.DivePoint, most int, kept []int) bool {
	if len(kept) == 0 || kept[0] != 0 || kept[len(kept)-1] != len(l)-1 {
		return false
	}
	for i := range len(kept) - 1 {
		if kept[i] >= kept[i+1] || !isAllowed(l, most, kept[i], kept[i+1]) {
			return false
		}
	}
	return true
}

// areRightLabels tells whether labels are right.
func areRightLabels(l []api.DivePoint, most int, labels []int) bool {
	if labels[0] != 0 {
		return false
	}
	for to := range l {
		for from := range to {
			if labels[to] > labels[from]+1 && isAllowed(l, most, from, to) {
				return false
			}
		}
	}
	return true
}

// fewest returns how many points the shortest right kept list has, by trying all of them.
func fewest(l []api.DivePoint, most int) int {
	best := len(l)
	for set := range 1 << (len(l) - 2) {
		kept := []int{0}
		for i := range len(l) - 2 {
			if set>>i&1 == 1 {
				kept = append(kept, i+1)
			}
		}
		kept = append(kept, len(l)-1)
		if len(kept) < best && isRightKept(l, most, kept) {
			best = len(kept)
		}
	}
	return best
}

// checkThinned checks the results of Thin against the definitions, and returns the number of points.
func checkThinned(t *testing.T, l []api.DivePoint, most int) int {
	t.Helper()
	kept, labels, e := profile.Thin(l, most)
	if e != api.OK || !isRightKept(l, most, kept) || len(labels) != len(l) || !areRightLabels(l, most, labels) ||
		labels[len(l)-1] != len(kept)-1 || slices.Min(labels) < 0 || slices.Max(labels) > 200 {
		t.Fatalf("Thin(%v, %d): %v, %v, error %d", l, most, kept, labels, e)
	}
	n, e := profile.CheckThin(l, most, kept)
	expect(t, "CheckThin "+flat(kept)+flat(l), n, e, len(kept), api.OK)
	n, e = profile.CheckLabels(l, most, labels)
	expect(t, "CheckLabels "+flat(labels)+flat(l), n, e, len(kept), api.OK)
	var thinned []api.DivePoint
	for _, k := range kept {
		thinned = append(thinned, l[k])
	}
	is, e := profile.IsWithin(l, thinned, most)
	expect(t, "IsWithin of the thinned profile "+flat(kept)+flat(l), is, e, true, api.OK)
	return len(kept)
}

// P2.8: the examples, two points, straight lines, and steps that are just allowed.
func TestThin(t *testing.T) {
	saw := points(0, 0, 1, 30000, 2, 0, 3, 30000)
	for _, c := range []struct {
		name       string
		l          []api.DivePoint
		most, want int
	}{
		{"the error 10", four, 10, 2}, {"the error 9", four, 9, 3}, {"the error 4", four, 4, 4}, {"the error 0", four, 0, 4},
		{"two points", points(0, 0, 1000000, 30000), 0, 2},
		{"a straight line", points(0, 0, 1, 3, 3, 9, 4, 12, 1000, 3000), 0, 2},
		{"two straight lines", points(0, 0, 1, 3, 3, 9, 4, 9, 5, 9, 6, 9), 0, 3},
		{"not quite straight", points(0, 0, 1, 1, 3, 4), 0, 3},
		{"a third of a centimetre", points(0, 0, 1, 1, 3, 4), 1, 2},
		{"the greatest error", saw, 30000, 2}, {"a little less", points(0, 0, 1, 30000, 2, 0), 29999, 3}, {"just as much", points(0, 0, 1, 30000, 2, 0), 30000, 2},
		{"200 points that are all needed", longest(), 0, 200}, {"200 points, none of them needed", longest(), 57, 2},
	} {
		if n := checkThinned(t, c.l, c.most); n != c.want {
			t.Errorf("Thin, %s: %d points, want %d", c.name, n, c.want)
		}
	}
	kept, _, e := profile.Thin(four, 10)
	expect(t, "Thin", kept, e, []int{0, 3}, api.OK)
	for _, most := range []int{-1, 30001} {
		kept, labels, e := profile.Thin(four, most)
		refuse(t, "Thin", kept, e, api.ErrRange)
		refuse(t, "Thin", labels, e, api.ErrRange)
	}
}

// P2.8, P2.9: as few points as possible, and with a greater error not more.
func TestThinOfMany(t *testing.T) {
	someProfiles(400, func(l, _ []api.DivePoint) {
		last := len(l)
		for most := range 7 {
			n := checkThinned(t, l, most)
			if want := fewest(l, most); n != want || n > last {
				t.Fatalf("Thin(%v, %d): %d points, want %d", l, most, n, want)
			}
			last = n
		}
	})
	last := 200
	for _, most := range []int{0, 1, 2, 5, 10, 20, 30, 50, 100} {
		n := checkThinned(t, longest(), most)
		if n > last {
			t.Errorf("Thin with the error %d: %d points", most, n)
		}
		last = n
	}
	if last != 2 {
		t.Errorf("Thin with an error greater than all depths: %d points", last)
	}
}

// P2.8: which kept lists are right, and the first error of those that are not.
func TestCheckThin(t *testing.T) {
	for _, c := range []struct {
		most   int
		kept   []int
		want   int
		wanted api.Errno
	}{
		{9, []int{0, 2, 3}, 3, api.OK}, {9, []int{0, 1, 2, 3}, 4, api.OK}, {10, []int{0, 3}, 2, api.OK}, {5, []int{0, 2, 3}, 3, api.OK}, {10, []int{0, 1, 3}, 3, api.OK},
		{4, []int{0, 2, 3}, 0, api.ErrBreak}, {9, []int{0, 1, 3}, 0, api.ErrBreak}, {9, []int{0, 3}, 0, api.ErrBreak},
		{-1, []int{4}, 0, api.ErrRange}, {30001, []int{}, 0, api.ErrRange},
		{9, []int{0, 4}, 0, api.ErrMissing}, {9, []int{-1, 3}, 0, api.ErrMissing}, {9, []int{3, 3, 0, 4}, 0, api.ErrMissing},
		{9, []int{math.MinInt}, 0, api.ErrMissing}, {9, []int{0, 2, math.MaxInt}, 0, api.ErrMissing},
		{9, []int{0, 0, 3}, 0, api.ErrOrder}, {9, []int{1, 3, 2}, 0, api.ErrOrder}, {9, []int{0, 3, 3}, 0, api.ErrOrder}, {9, []int{3, 0}, 0, api.ErrOrder},
		{9, nil, 0, api.ErrShape}, {9, []int{}, 0, api.ErrShape}, {9, []int{1, 3}, 0, api.ErrShape}, {9, []int{0, 2}, 0, api.ErrShape},
		{9, []int{0}, 0, api.ErrShape}, {9, []int{3}, 0, api.ErrShape}, {9, []int{2}, 0, api.ErrShape}, {0, []int{0, 1}, 0, api.ErrShape},
	} {
		n, e := profile.CheckThin(four, c.most, c.kept)
		expect(t, "CheckThin "+flat(c.most)+flat(c.kept), n, e, c.want, c.wanted)
	}
}

// P2.8: which labels are right, and the first error of those that are not.
func TestCheckLabels(t *testing.T) {
	for _, c := range []struct {
		most   int
		labels []int
		want   int
		wanted api.Errno
	}{
		{9, []int{0, 1, 1, 2}, 3, api.OK}, {9, []int{0, 0, 0, 0}, 1, api.OK}, {9, []int{0, 0, 1, 1}, 2, api.OK}, {9, []int{0, 1, 0, 1}, 2, api.OK},
		{10, []int{0, 1, 1, 1}, 2, api.OK}, {0, []int{0, 1, 2, 3}, 4, api.OK},
		{-1, nil, 0, api.ErrRange}, {30001, []int{0, 1, 1, 2}, 0, api.ErrRange},
		{9, nil, 0, api.ErrShape}, {9, []int{0, 1, 1}, 0, api.ErrShape}, {9, []int{0, 1, 1, 2, 201}, 0, api.ErrShape}, {9, []int{-1}, 0, api.ErrShape},
		{9, []int{1, 1, 1, 201}, 0, api.ErrRange}, {9, []int{0, 1, -1, 2}, 0, api.ErrRange}, {9, []int{0, 9, 1, math.MaxInt}, 0, api.ErrRange}, {9, []int{0, 1, 1, math.MinInt}, 0, api.ErrRange},
		{9, []int{0, 1, 1, 200}, 0, api.ErrProof},
		{10, []int{0, 1, 1, 2}, 0, api.ErrProof}, {9, []int{0, 1, 2, 2}, 0, api.ErrProof}, {9, []int{0, 1, 1, 3}, 0, api.ErrProof},
		{9, []int{1, 1, 1, 2}, 0, api.ErrProof}, {0, []int{0, 2, 2, 3}, 0, api.ErrProof}, {0, []int{0, 0, 0, 2}, 0, api.ErrProof},
	} {
		n, e := profile.CheckLabels(four, c.most, c.labels)
		expect(t, "CheckLabels "+flat(c.most)+flat(c.labels), n, e, c.want, c.wanted)
	}
}

// P2.9: no right kept list has fewer points than the bound of any right labels.
func TestLabelsBound(t *testing.T) {
	someProfiles(60, func(l, _ []api.DivePoint) {
		if len(l) > 5 {
			return
		}
		for most := range 3 {
			least := fewest(l, most)
			labels := make([]int, len(l))
			for code := range 625 {
				for i := range labels {
					labels[i] = code % 5
					code /= 5
				}
				right := areRightLabels(l, most, labels)
				n, e := profile.CheckLabels(l, most, labels)
				if right != (e == api.OK) || n > least {
					t.Fatalf("CheckLabels(%v, %d, %v): %d, error %d", l, most, labels, n, e)
				}
			}
		}
	})
}
