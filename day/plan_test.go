package day_test

import (
	"math"
	"slices"
	"testing"

	"shotline/api"
	"shotline/day"
)

// P9.2: plans of the examples, and each rule by itself.
func TestCheckPlan(t *testing.T) {
	poorest := func(gas int) api.DayTask { return with(func(t *api.DayTask) { t.Rules.Gas = gas }) }
	level := func(slot, level int) api.DayTask { return with(func(t *api.DayTask) { t.Slots[slot].Level = level }) }
	seats := func(n int) api.DayTask { return with(func(t *api.DayTask) { t.Slots[0].Seats, t.Rules.Ratio = n, 9 }) }
	ratio := func(n int) api.DayTask { return with(func(t *api.DayTask) { t.Slots[0].Seats, t.Rules.Ratio = 3, n }) }
	for _, test := range []struct {
		t             api.DayTask
		plan          []int
		value, number int
		e             api.Errno
	}{
		{harbour(60), []int{0, 0, 1, 1}, 65, 0, api.OK},
		{harbour(61), []int{0, 0, 1, 1}, 0, 3, api.ErrBusy},
		{harbour(61), []int{0, 0, -1, -1}, 40, 0, api.OK},
		{harbour(61), []int{-1, -1, 1, 1}, 25, 0, api.OK},
		{harbour(60), []int{-1, 0, -1, -1}, 0, 1, api.ErrOpen},
		{harbour(60), []int{0, -1, 0, -1}, 30, 0, api.OK},
		{harbour(60), []int{-1, -1, -1, -1}, 0, 0, api.OK},
		{harbour(60), nil, 0, 0, api.ErrShape},
		{harbour(60), []int{0, 0, 1}, 0, 0, api.ErrShape},
		{harbour(60), []int{7, 0, 1, 1, -1}, 0, 0, api.ErrShape},
		{harbour(60), []int{0, 1, 7, 1}, 0, 1, api.ErrMissing},
		{harbour(60), []int{0, 0, 1, 0}, 0, 3, api.ErrMissing},
		{harbour(60), []int{-2, 0, 1, 1}, 0, 0, api.ErrMissing},
		{harbour(60), []int{0, 0, math.MaxInt, 1}, 0, 2, api.ErrMissing},
		{harbour(60), []int{math.MinInt, 0, 0, 1}, 0, 0, api.ErrMissing},
		{api.DayTask{}, nil, 0, 0, api.OK},
		{api.DayTask{}, []int{-1}, 0, 0, api.ErrShape},
		// Levels: of the divers of wishes, in their slots.
		{level(0, 2), []int{0, 0, 0, -1}, 0, 1, api.ErrKind},
		{level(0, 2), []int{0, -1, 0, -1}, 0, 2, api.ErrKind},
		{level(0, 2), []int{0, -1, 1, 1}, 35, 0, api.OK},
		{level(1, 5), []int{0, 0, -1, 1}, 45, 0, api.OK},
		{level(1, 6), []int{0, 0, -1, 1}, 0, 3, api.ErrKind},
		// A diver twice in a slot is told ahead of one who is too near itself, and of a slot that is full.
		{harbour(60), []int{1, -1, -1, 1}, 0, 3, api.ErrDouble},
		{harbour(60), []int{1, -1, 1, 1}, 0, 3, api.ErrDouble},
		{level(1, 6), []int{1, -1, 1, 1}, 0, 0, api.ErrKind},
		{harbour(60), []int{1, 0, -1, -1}, 0, 1, api.ErrOpen},
		// Seats, for wishes that are granted.
		{seats(3), []int{0, 0, 0, 1}, 65, 0, api.OK},
		{seats(2), []int{0, 0, 0, 1}, 0, 0, api.ErrFull},
		{seats(1), []int{0, 0, 1, 1}, 0, 0, api.ErrFull},
		// Gas.
		{poorest(90), []int{0, 0, 1, 1}, 65, 0, api.OK},
		{poorest(89), []int{0, 0, 1, 1}, 0, 0, api.ErrStock},
		{poorest(0), []int{-1, -1, -1, -1}, 0, 0, api.OK},
		{poorest(19), []int{-1, 0, -1, -1}, 0, 0, api.ErrStock},
		// Novices, each of them counted once.
		{harbour(60), []int{0, -1, 1, -1}, 0, 1, api.ErrGap},
		{ratio(2), []int{0, 0, 0, -1}, 60, 0, api.OK},
		{ratio(1), []int{0, 0, 0, -1}, 0, 0, api.ErrGap},
		{ratio(0), []int{-1, -1, 0, -1}, 0, 0, api.ErrGap},
		{ratio(0), []int{0, -1, -1, 1}, 15, 0, api.OK},
		{with(func(t *api.DayTask) { t.Rules.Novice = 1 }), []int{-1, -1, 1, -1}, 20, 0, api.OK},
		{with(func(t *api.DayTask) { t.Rules.Novice = 6 }), []int{0, 0, -1, -1}, 0, 0, api.ErrGap},
		{with(func(t *api.DayTask) { t.Rules.Novice = 6 }), []int{0, -1, -1, -1}, 10, 0, api.OK},
		{with(func(t *api.DayTask) { t.Rules.Guide = 5 }), []int{0, 0, -1, -1}, 40, 0, api.OK},
		{with(func(t *api.DayTask) { t.Rules.Guide = 6 }), []int{0, 0, -1, -1}, 0, 0, api.ErrGap},
		{with(func(t *api.DayTask) { t.Rules.Guide = 6 }), []int{-1, -1, 1, 1}, 0, 1, api.ErrGap},
		// A buddy need not have this diver as buddy.
		{with(func(t *api.DayTask) { t.Divers[0].Buddy = 2 }), []int{-1, -1, 1, 1}, 25, 0, api.OK},
		{with(func(t *api.DayTask) { t.Divers[0].Buddy = 2 }), []int{0, 0, 1, -1}, 0, 0, api.ErrOpen},
		{with(func(t *api.DayTask) { t.Divers[1].Buddy = -1 }), []int{1, 0, -1, -1}, 0, 0, api.ErrGap},
	} {
		v, n, e := day.CheckPlan(test.t, test.plan)
		expect(t, "CheckPlan of "+flat(test), [2]int{v, n}, e, [2]int{test.value, test.number}, test.e)
		if test.e == api.ErrOpen || test.e == api.ErrGap {
			test.number, test.e = 0, api.OK
		}
		n, e = day.Hard(test.t, test.plan)
		expect(t, "Hard of "+flat(test), n, e, test.number, test.e)
	}
}

// P9.2: two slots of one diver, in either order, with all gaps that may lie between.
func TestBusy(t *testing.T) {
	// The slots lie from the first to the second minute; so many minutes are the greatest gap with which both are granted.
	for _, test := range []struct {
		a, b [2]int
		gap  int
	}{
		{[2]int{0, 60}, [2]int{120, 180}, 60},
		{[2]int{0, 60}, [2]int{61, 180}, 1},
		{[2]int{0, 60}, [2]int{60, 180}, 0},
		{[2]int{0, 60}, [2]int{60, 60}, 0},
		{[2]int{0, 60}, [2]int{59, 60}, -1},
		{[2]int{0, 60}, [2]int{59, 2880}, -1},
		{[2]int{0, 2880}, [2]int{1, 1}, -1},
		{[2]int{0, 60}, [2]int{30, 40}, -1},
		{[2]int{0, 60}, [2]int{0, 60}, -1},
		{[2]int{0, 60}, [2]int{0, 0}, -1},
		{[2]int{0, 1}, [2]int{0, 0}, -1},
		{[2]int{5, 5}, [2]int{5, 5}, 0},
		{[2]int{5, 5}, [2]int{6, 6}, 1},
		{[2]int{0, 0}, [2]int{2880, 2880}, 2880},
		{[2]int{0, 10}, [2]int{2880, 2880}, 2870},
	} {
		for _, gap := range []int{0, 1, 2, 59, 60, 61, 2869, 2870, 2871, 2879, 2880} {
			x := harbour(gap)
			want := broken{0, api.OK}
			if gap > test.gap {
				want = broken{3, api.ErrBusy}
			}
			for range 2 {
				x.Slots[0].From, x.Slots[0].To, x.Slots[1].From, x.Slots[1].To = test.a[0], test.a[1], test.b[0], test.b[1]
				n, e := day.Hard(x, []int{0, -1, -1, 1})
				expect(t, "Hard of "+flat(x), n, e, want.number, want.e)
				test.a, test.b = test.b, test.a
			}
		}
	}
}

// P9.2: every plan of days by chance, by the definitions.
func TestPlansByChance(t *testing.T) {
	seen := map[api.Errno]int{}
	someDays(3, 400, 6, func(c chance, x api.DayTask) {
		m := modelOf(x)
		for _, plan := range m.plans() {
			want := m.wrong(plan)
			seen[want.e]++
			value := 0
			if want.e == api.OK {
				value = m.value(plan)
			}
			v, n, e := day.CheckPlan(x, plan)
			expect(t, "CheckPlan of "+flat(x)+flat(plan), [2]int{v, n}, e, [2]int{value, want.number}, want.e)
			want = first(m.hard(plan))
			n, e = day.Hard(x, plan)
			expect(t, "Hard of "+flat(x)+flat(plan), n, e, want.number, want.e)
		}
	})
	for _, e := range []api.Errno{api.OK, api.ErrKind, api.ErrDouble, api.ErrBusy, api.ErrFull, api.ErrStock, api.ErrOpen, api.ErrGap} {
		if seen[e] < 100 {
			t.Errorf("there were only %d plans with the error %d", seen[e], e)
		}
	}
}

// P9.6: the examples, and what is not there.
func TestRosters(t *testing.T) {
	x, plan := harbour(60), []int{0, -1, 0, -1}
	names, e := day.Roster(x, plan, 0)
	expect(t, "Roster", names, e, []string{"ann", "eve"}, api.OK)
	names, e = day.Roster(x, plan, 1)
	expect(t, "Roster", names, e, []string(nil), api.OK)
	names, e = day.Roster(with(func(t *api.DayTask) { t.Wishes[0], t.Wishes[2] = t.Wishes[2], t.Wishes[0] }), plan, 0)
	expect(t, "Roster", names, e, []string{"ann", "eve"}, api.OK)
	for _, slot := range []int{math.MinInt, -1, 2, 8, math.MaxInt} {
		names, e := day.Roster(x, plan, slot)
		refuse(t, "Roster of "+flat(slot), names, e, api.ErrMissing)
	}
	l, e := day.Seats(x, plan)
	expect(t, "Seats", l, e, []int{0, 2}, api.OK)
	l, e = day.Seats(api.DayTask{}, nil)
	expect(t, "Seats", l, e, []int(nil), api.OK)
	n, e := day.GasLeft(x, plan)
	expect(t, "GasLeft", n, e, 50, api.OK)
	l, e = day.FreeFor(x, plan, 2)
	expect(t, "FreeFor", l, e, []int{0}, api.OK)
	for _, w := range []int{math.MinInt, -1, 4, 30, math.MaxInt} {
		l, e := day.FreeFor(x, plan, w)
		refuse(t, "FreeFor of "+flat(w), l, e, api.ErrMissing)
		l, e = day.Grant(x, plan, [2]int{w, 0})
		refuse(t, "Grant of "+flat(w), l, e, api.ErrMissing)
	}
	// The order is that of the slots of the wish.
	x.Wishes[0].Slots = []int{1, 0}
	l, e = day.FreeFor(x, []int{-1, -1, -1, -1}, 0)
	expect(t, "FreeFor", l, e, []int{1, 0}, api.OK)
}

// P9.6: what Grant accepts, and the errors of what it does not.
func TestGrant(t *testing.T) {
	x, plan := harbour(60), []int{0, -1, 0, -1}
	for _, test := range []struct {
		at   [2]int
		want []int
		e    api.Errno
	}{
		{[2]int{3, 1}, []int{0, -1, 0, 1}, api.OK},
		{[2]int{2, -1}, []int{0, -1, -1, -1}, api.OK},
		{[2]int{2, 0}, plan, api.OK},
		{[2]int{3, -1}, plan, api.OK},
		{[2]int{1, 0}, nil, api.ErrFull},
		{[2]int{0, -1}, nil, api.ErrGap},
		{[2]int{2, 1}, nil, api.ErrGap},
		{[2]int{3, 0}, nil, api.ErrMissing},
		{[2]int{3, -2}, nil, api.ErrMissing},
		{[2]int{3, 2}, nil, api.ErrMissing},
		{[2]int{0, math.MaxInt}, nil, api.ErrMissing},
	} {
		l, e := day.Grant(x, plan, test.at)
		expect(t, "Grant of "+flat(test.at), l, e, test.want, test.e)
	}
	x.Rules.Gap, x.Rules.Gas = 61, 69
	l, e := day.Grant(x, plan, [2]int{3, 1})
	refuse(t, "Grant", l, e, api.ErrBusy)
	x.Rules.Gap = 60
	l, e = day.Grant(x, plan, [2]int{3, 1})
	refuse(t, "Grant", l, e, api.ErrStock)
	x.Divers[1].Buddy = 2
	l, e = day.Grant(x, []int{0, -1, -1, -1}, [2]int{1, 0})
	refuse(t, "Grant", l, e, api.ErrOpen)
}

// P9.6, P9.12: right plans of days by chance: what is left, and what FreeFor and Grant tell of each wish.
func TestRightPlansByChance(t *testing.T) {
	full := 0
	someDays(4, 150, 6, func(c chance, x api.DayTask) {
		m := modelOf(x)
		right := m.right()
		for range min(6, len(right)) {
			plan := right[c.Intn(len(right))]
			var seats []int
			for slot, s := range x.Slots {
				seats = append(seats, s.Seats-m.granted(plan, slot))
				names, e := day.Roster(x, plan, slot)
				expect(t, "Roster of "+flat(x)+flat(plan), names, e, namesIn(m, plan, slot), api.OK)
			}
			l, e := day.Seats(x, plan)
			expect(t, "Seats of "+flat(x)+flat(plan), l, e, seats, api.OK)
			n, e := day.GasLeft(x, plan)
			expect(t, "GasLeft of "+flat(x)+flat(plan), n, e, x.Rules.Gas-m.gas(plan), api.OK)
			for w := range plan {
				full += checkFree(t, m, plan, w)
			}
		}
	})
	if full < 100 {
		t.Errorf("there were only %d wishes with a slot that is not free", full)
	}
}

func namesIn(m model, plan []int, slot int) []string {
	var names []string
	for d, x := range m.Divers {
		if m.in(plan, slot)[d] {
			names = append(names, x.Name)
		}
	}
	return names
}

// checkFree checks what FreeFor and Grant tell of a wish, and returns how many of its slots are not free.
func checkFree(t *testing.T, m model, plan []int, w int) int {
	t.Helper()
	var free []int
	for slot := -2; slot <= len(m.Slots); slot++ {
		with := slices.Clone(plan)
		with[w] = slot
		after, e := day.Grant(m.DayTask, plan, [2]int{w, slot})
		if slot != -1 && !slices.Contains(m.Wishes[w].Slots, slot) {
			refuse(t, "Grant", after, e, api.ErrMissing)
			continue
		}
		if wrong := m.wrong(with); wrong.e != api.OK {
			refuse(t, "Grant of "+flat(m)+flat(plan), after, e, wrong.e)
			continue
		}
		expect(t, "Grant of "+flat(m)+flat(plan), after, e, with, api.OK)
		free = append(free, slot)
	}
	inOrder := slices.DeleteFunc(slices.Clone(m.Wishes[w].Slots), func(slot int) bool { return !slices.Contains(free, slot) })
	l, e := day.FreeFor(m.DayTask, plan, w)
	expect(t, "FreeFor of "+flat(m)+flat(plan), l, e, inOrder, api.OK)
	return len(m.Wishes[w].Slots) - len(inOrder)
}

// P9.5: moves of plans of any day.
func TestMoves(t *testing.T) {
	for _, test := range []struct {
		old, now []int
		want     [][3]int
		e        api.Errno
	}{
		{[]int{0, 0, 1, 1}, []int{0, 0, -1, -1}, [][3]int{{2, 1, -1}, {3, 1, -1}}, api.OK},
		{[]int{0, 0, 1, 1}, []int{0, 0, 1, 1}, nil, api.OK},
		{[]int{-1, 7, 0}, []int{7, -1, 0}, [][3]int{{0, -1, 7}, {1, 7, -1}}, api.OK},
		{nil, nil, nil, api.OK},
		{make([]int, 30), slices.Repeat([]int{1}, 30), moved(30), api.OK},
		{make([]int, 31), make([]int, 31), nil, api.ErrShape},
		{[]int{0}, nil, nil, api.ErrShape},
		{nil, []int{0}, nil, api.ErrShape},
		{[]int{8, 0}, []int{8}, nil, api.ErrShape},
		{[]int{8}, []int{8}, nil, api.ErrRange},
		{[]int{0}, []int{8}, nil, api.ErrRange},
		{[]int{-2}, []int{0}, nil, api.ErrRange},
		{[]int{0, 0}, []int{0, -2}, nil, api.ErrRange},
		{[]int{0, math.MaxInt}, []int{0, 0}, nil, api.ErrRange},
		{[]int{0, 0}, []int{math.MinInt, 0}, nil, api.ErrRange},
	} {
		l, e := day.Moves(test.old, test.now)
		expect(t, "Moves of "+flat(test), l, e, test.want, test.e)
	}
}

func moved(n int) [][3]int {
	var l [][3]int
	for w := range n {
		l = append(l, [3]int{w, 0, 1})
	}
	return l
}
