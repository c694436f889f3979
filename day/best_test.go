package day_test

import (
	"math"
	"slices"
	"testing"

	"shotline/api"
	"shotline/day"
)

// P9.3: the best plans of the examples, of days with nothing, and of several with the same value.
func TestBestPlan(t *testing.T) {
	equal := crowd(2, 2, 2, 2)
	equal.Wishes[0], equal.Wishes[1] = wish(0, 5, 1, 1, 0), wish(1, 5, 1, 0, 1)
	one := equal
	one.Rules.Gas = 1
	shut := crowd(2, 1, 2, 0)
	for _, test := range []struct {
		t     api.DayTask
		plan  []int
		value int
	}{
		{harbour(60), []int{0, 0, 1, 1}, 65},
		{harbour(61), []int{0, 0, -1, -1}, 40},
		{api.DayTask{}, nil, 0},
		{shut, []int{-1, -1}, 0},
		// Lexicographically -1 comes first, then the slots by their numbers, in whatever order a wish names them.
		{equal, []int{0, 0}, 10},
		{one, []int{-1, 0}, 5},
		{named(1, 1, 1, 1, 1, 1, 1, 1, 1, 1), slices.Repeat([]int{0}, 10), 55},
	} {
		checkBest(t, test.t, test.plan, test.value)
	}
}

// checkBest checks the best plan of a day, and its proof.
func checkBest(t *testing.T, x api.DayTask, plan []int, value int) {
	t.Helper()
	p, v, tree, e := day.BestPlan(x)
	expect(t, "BestPlan of "+flat(x), p, e, plan, api.OK)
	expect(t, "its value", v, e, value, api.OK)
	if len(tree) < 1 || len(tree) > api.MaxDayNodes {
		t.Errorf("the tree of %+v has %d nodes", x, len(tree))
	}
	n, e := day.CheckTree(x, v, tree)
	expect(t, "CheckTree of its tree "+flat(tree), n, e, 0, api.OK)
	if _, e := day.CheckTree(x, v-1, tree); e != api.ErrProof && (v > 0 || e != api.ErrRange) {
		t.Errorf("CheckTree of the tree of %+v for %d: error %d", x, v-1, e)
	}
	for i, node := range tree {
		if node.Kind != api.DaySplit && (node.Wish != 0 || node.Next != nil) {
			t.Errorf("the leaf %d of the tree of %+v: %+v", i, x, node)
		}
	}
}

// P9.3, P9.9: the best plans of days by chance: none of all plans is better.
func TestBestPlansByChance(t *testing.T) {
	someDays(5, 400, 8, func(c chance, x api.DayTask) {
		m := modelOf(x)
		best := m.best()
		checkBest(t, x, best, m.value(best))
	})
}

// P9.3: days with so many ways as there may be, also with wishes without slots: the tree is never too large.
func TestManyWays(t *testing.T) {
	c := newChance(6)
	for _, counts := range [][]int{
		{4, 4, 4, 2, 1, 1}, {8, 4, 1, 1, 1, 1, 1}, {1, 1, 1, 1, 1, 1, 1, 1, 1, 1}, {4, 1, 1, 1, 1, 1, 1, 1, 1}, {2, 2, 2, 2, 2, 2, 1}, {8, 8, 8, 1}, {6, 6, 4, 2, 1},
	} {
		for _, closed := range []int{0, 1, 30 - len(counts)} {
			x := named(append(slices.Repeat([]int{0}, closed), counts...)...)
			for range 4 {
				// No leaf is poor early: all is worth the same, and there is gas for nobody but one, or for all.
				for i := range x.Wishes {
					x.Wishes[i].Value, x.Wishes[i].Gas = 1, c.Intn(2)
				}
				x.Rules.Gas = c.Intn(3)
				c.Shuffle(len(x.Wishes), func(i, k int) { x.Wishes[i], x.Wishes[k] = x.Wishes[k], x.Wishes[i] })
				best := modelOf(x).best()
				checkBest(t, x, best, modelOf(x).value(best))
			}
		}
	}
}

// P9.3, P9.4, P9.5: 1500 ways are not too many; more are, also if they are more than any int.
func TestTooManyWays(t *testing.T) {
	for _, test := range []struct {
		counts []int
		e      api.Errno
	}{
		{[]int{4, 4, 4, 2, 1, 1}, api.OK},
		{[]int{2, 5, 6, 6, 5}, api.ErrLarge},
		{[]int{6, 5, 5, 5}, api.ErrLarge},
		{[]int{8, 8, 8, 2}, api.ErrLarge},
		{slices.Repeat([]int{1}, 11), api.ErrLarge},
		{slices.Repeat([]int{8}, 30), api.ErrLarge},
		{slices.Repeat([]int{7}, 30), api.ErrLarge},
		{slices.Repeat([]int{3}, 30), api.ErrLarge},
		{slices.Repeat([]int{0}, 30), api.OK},
	} {
		x := named(test.counts...)
		old := make([]int, len(test.counts))
		_, _, _, e := day.BestPlan(x)
		expect(t, "BestPlan of "+flat(test), nil, e, nil, test.e)
		_, _, e = day.Reschedule(x, old)
		expect(t, "Reschedule of "+flat(test), nil, e, nil, test.e)
		n, e := day.CheckTree(x, 30000, []api.DayNode{poor})
		expect(t, "CheckTree of "+flat(test), n, e, 0, test.e)
		if _, e = day.SmallestClash(x); (e == api.ErrLarge) != (test.e == api.ErrLarge) {
			t.Errorf("SmallestClash of %v: error %d", test, e)
		}
		if e = day.CheckClash(x, nil); (e == api.ErrLarge) != (test.e == api.ErrLarge) {
			t.Errorf("CheckClash of %v: error %d", test, e)
		}
	}
	// Plans are looked at, and changed, on days of any number of ways.
	x, plan := named(slices.Repeat([]int{8}, 30)...), slices.Repeat([]int{-1}, 30)
	plan[29] = 7
	v, n, e := day.CheckPlan(x, plan)
	expect(t, "CheckPlan", [2]int{v, n}, e, [2]int{30, 0}, api.OK)
	l, e := day.FreeFor(x, plan, 29)
	expect(t, "FreeFor", l, e, []int{0, 1, 2, 3, 4, 5, 6, 7}, api.OK)
	if plan, e = day.Grant(x, plan, [2]int{28, 3}); e != api.OK || plan[28] != 3 {
		t.Errorf("Grant: %v, error %d", plan, e)
	}
}

// P9.5: the rescheduling of the example, of plans of other days, and of what is right already.
func TestReschedule(t *testing.T) {
	equal := crowd(2, 2, 2, 2)
	equal.Rules.Gas = 1
	alike := crowd(2, 2, 2, 2)
	alike.Rules.Gas, alike.Wishes[1].Value, alike.Wishes[0].Slots = 1, 1, []int{1, 0}
	for _, test := range []struct {
		t         api.DayTask
		old, want []int
		changes   int
		e         api.Errno
	}{
		{harbour(61), []int{0, 0, 1, 1}, []int{0, 0, -1, -1}, 2, api.OK},
		{harbour(60), []int{0, 0, 1, 1}, []int{0, 0, 1, 1}, 0, api.OK},
		{harbour(61), []int{-1, -1, 1, 1}, []int{-1, -1, 1, 1}, 0, api.OK},
		{harbour(60), []int{7, 7, 7, 7}, []int{0, 0, 1, 1}, 4, api.OK},
		{harbour(60), []int{-1, 1, -1, -1}, []int{-1, -1, -1, -1}, 1, api.OK},
		{harbour(60), []int{-1, 0, -1, -1}, []int{0, 0, -1, -1}, 1, api.OK},
		{api.DayTask{}, nil, nil, 0, api.OK},
		{equal, []int{0, 0}, []int{-1, 0}, 1, api.OK},
		{equal, []int{7, 7}, []int{-1, 0}, 2, api.OK},
		{alike, []int{7, 7}, []int{-1, 0}, 2, api.OK},
		{harbour(60), []int{0, 0, 1}, nil, 0, api.ErrShape},
		{harbour(60), []int{0, 0, 1, 1, 1}, nil, 0, api.ErrShape},
		{harbour(60), []int{9, 0, 1}, nil, 0, api.ErrShape},
		{harbour(60), nil, nil, 0, api.ErrShape},
		{harbour(60), []int{0, 0, 1, 8}, nil, 0, api.ErrRange},
		{harbour(60), []int{-2, 0, 1, 1}, nil, 0, api.ErrRange},
		{harbour(60), []int{math.MaxInt, 0, 1, 1}, nil, 0, api.ErrRange},
	} {
		p, n, e := day.Reschedule(test.t, test.old)
		expect(t, "Reschedule of "+flat(test), p, e, test.want, test.e)
		expect(t, "its changes", n, e, test.changes, test.e)
	}
}

// P9.5, P9.11: reschedulings of days by chance, of right plans, of plans of the day, and of any numbers.
func TestReschedulingsByChance(t *testing.T) {
	someDays(7, 150, 8, func(c chance, x api.DayTask) {
		m := modelOf(x)
		right := m.right()
		same := right[c.Intn(len(right))]
		p, n, e := day.Reschedule(x, same)
		expect(t, "Reschedule of what is right", p, e, same, api.OK)
		expect(t, "its changes", n, e, 0, api.OK)
		anything := c.plan(x)
		for w := range anything {
			if c.Intn(3) == 0 {
				anything[w] = c.from(-1, 7)
			}
		}
		for _, old := range [][]int{c.plan(x), anything, slices.Repeat([]int{7}, len(x.Wishes))} {
			want := m.rescheduled(old)
			p, n, e := day.Reschedule(x, old)
			expect(t, "Reschedule of "+flat(x)+flat(old), p, e, want, api.OK)
			expect(t, "its changes", n, e, changes(want, old), api.OK)
			l, e := day.Moves(old, p)
			expect(t, "how many moves there are", len(l), e, n, api.OK)
			for _, move := range l {
				expect(t, "a move", [2]int{old[move[0]], p[move[0]]}, e, [2]int{move[1], move[2]}, api.OK)
			}
		}
	})
}

// P9.12: more seats, more gas or a lesser gap never make the best value less.
func TestMoreIsNotLess(t *testing.T) {
	greater := 0
	someDays(8, 300, 7, func(c chance, x api.DayTask) {
		_, v, _, _ := day.BestPlan(x)
		x.Slots[c.Intn(len(x.Slots))].Seats++
		_, seats, _, _ := day.BestPlan(x)
		x.Rules.Gas += c.Intn(20)
		_, gas, _, _ := day.BestPlan(x)
		x.Rules.Gap = c.Intn(x.Rules.Gap + 1)
		_, gap, _, e := day.BestPlan(x)
		if e != api.OK || v > seats || seats > gas || gas > gap {
			t.Errorf("%+v: %d, %d with more seats, %d with more gas, %d with a lesser gap", x, v, seats, gas, gap)
		}
		if v < gap {
			greater++
		}
	})
	if greater < 30 {
		t.Errorf("only %d days became better", greater)
	}
}
