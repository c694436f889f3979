package day_test

import (
	"math"
	"slices"
	"testing"

	"shotline/api"
	"shotline/day"
)

// P9.4: the smallest clashes of the examples, of wishes without slots, and of days without a clash.
func TestSmallestClash(t *testing.T) {
	shut := named(append([]int{1, 2, 0}, slices.Repeat([]int{0}, 27)...)...)
	low := named(1, 1, 1, 1, 1, 1, 1, 1, 1, 1)
	low.Divers[7].Level, low.Slots[0].Level = 1, 2
	few := func(seats int) api.DayTask {
		x := named(1, 1, 1, 1, 1, 1, 1, 1, 1, 1)
		x.Slots[0].Seats = seats
		return x
	}
	last := few(20)
	last.Wishes[8].Diver = 9
	for _, test := range []struct {
		t    api.DayTask
		want []int
		e    api.Errno
	}{
		{harbour(61), []int{0, 3}, api.OK},
		{harbour(60), nil, api.ErrNone},
		{api.DayTask{}, nil, api.ErrNone},
		{shut, []int{2}, api.OK},
		{low, []int{7}, api.OK},
		{few(10), nil, api.ErrNone},
		{few(9), []int{0, 1, 2, 3, 4, 5, 6, 7, 8, 9}, api.OK},
		{few(5), []int{0, 1, 2, 3, 4, 5}, api.OK},
		{last, []int{8, 9}, api.OK},
	} {
		set, e := day.SmallestClash(test.t)
		expect(t, "SmallestClash of "+flat(test.t), set, e, test.want, test.e)
		if e == api.OK {
			expect(t, "CheckClash of it", nil, day.CheckClash(test.t, set), nil, api.OK)
		}
	}
}

// P9.4: sets that are clashes, and those that are none.
func TestCheckClash(t *testing.T) {
	x := harbour(61)
	for _, test := range []struct {
		set []int
		e   api.Errno
	}{
		{[]int{0, 3}, api.OK},
		{[]int{1, 2}, api.OK},
		{nil, api.ErrProof},
		{[]int{3}, api.ErrProof},
		{[]int{0, 1}, api.ErrProof},
		{[]int{2, 3}, api.ErrProof},
		{[]int{0, 1, 3}, api.ErrClash},
		{[]int{0, 2, 3}, api.ErrClash},
		{[]int{0, 1, 2, 3}, api.ErrClash},
		{[]int{3, 0}, api.ErrOrder},
		{[]int{0, 0}, api.ErrOrder},
		{[]int{0, 3, 3}, api.ErrOrder},
		{[]int{0, 3, 1}, api.ErrOrder},
		{[]int{1, 1}, api.ErrOrder},
		// All numbers are looked at first, then their order.
		{[]int{3, 0, 4}, api.ErrMissing},
		{[]int{4}, api.ErrMissing},
		{[]int{-1, 0}, api.ErrMissing},
		{[]int{0, 3, math.MaxInt}, api.ErrMissing},
		{[]int{math.MinInt, 0, 3}, api.ErrMissing},
		{slices.Repeat([]int{3}, 100000), api.ErrOrder},
	} {
		expect(t, "CheckClash of "+flat(test.set)[:min(100, len(flat(test.set)))], nil, day.CheckClash(x, test.set), nil, test.e)
	}
	expect(t, "CheckClash", nil, day.CheckClash(api.DayTask{}, nil), nil, api.ErrProof)
	expect(t, "CheckClash", nil, day.CheckClash(api.DayTask{}, []int{0}), nil, api.ErrMissing)
	// A wish that is never granted is a clash alone.
	x.Wishes[1].Slots = nil
	expect(t, "CheckClash", nil, day.CheckClash(x, []int{1}), nil, api.OK)
	expect(t, "CheckClash", nil, day.CheckClash(x, []int{1, 2}), nil, api.ErrClash)
}

// P9.4, P9.10: all sets of wishes of days by chance, and the smallest clash of all of them.
func TestClashesByChance(t *testing.T) {
	seen := map[api.Errno]int{}
	sizes := map[int]int{}
	someDays(11, 400, 7, func(c chance, x api.DayTask) {
		if c.Intn(4) > 0 {
			x = kinder(x)
		}
		m := modelOf(x)
		right := m.right()
		var smallest []int
		for _, set := range m.subsets() {
			want := m.clash(right, set)
			seen[want]++
			if want == api.OK && smallest == nil {
				smallest = set
			}
			if c.Intn(4) == 0 {
				expect(t, "CheckClash of "+flat(x)+flat(set), nil, day.CheckClash(x, set), nil, want)
			}
		}
		set, e := day.SmallestClash(x)
		sizes[len(set)]++
		if smallest == nil {
			refuse(t, "SmallestClash of "+flat(x), set, e, api.ErrNone)
			return
		}
		expect(t, "SmallestClash of "+flat(x), set, e, smallest, api.OK)
		expect(t, "CheckClash of it", nil, day.CheckClash(x, set), nil, api.OK)
	})
	if seen[api.OK] < 200 || seen[api.ErrProof] < 200 || seen[api.ErrClash] < 200 || sizes[0] < 20 || sizes[2] < 50 || sizes[3] < 20 {
		t.Errorf("there were only so many errors of sets: %v, and so many smallest clashes by their members: %v", seen, sizes)
	}
}

// kinder is a day on which most wishes can be granted alone, so that clashes have more members.
func kinder(x api.DayTask) api.DayTask {
	x.Wishes = slices.DeleteFunc(x.Wishes, func(w api.DayWish) bool { return len(w.Slots) == 0 })
	for i := range x.Slots {
		x.Slots[i].Level = 0
	}
	for i := range x.Divers {
		x.Divers[i].Level += 2
	}
	x.Rules.Guide, x.Rules.Gas = x.Rules.Guide/2, x.Rules.Gas+10
	return x
}
