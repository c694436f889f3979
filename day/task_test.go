package day_test

import (
	"math"
	"slices"
	"testing"

	"shotline/api"
	"shotline/day"
)

// P9.1: days that are right, up to all limits.
func TestRightDays(t *testing.T) {
	full := crowd(8, 20, 30, 8)
	for i := range full.Wishes {
		full.Wishes[i].Value, full.Wishes[i].Gas = 1000, 1000000
	}
	full.Rules = api.DayRules{Guide: 20, Novice: 20, Ratio: 20, Gap: 2880, Gas: 30000000}
	for _, x := range []api.DayTask{
		{},
		harbour(60),
		full,
		{Slots: make([]api.DaySlot, 0), Divers: crowd(0, 20, 0, 0).Divers},
		with(func(t *api.DayTask) { t.Slots[1].Name = "AM" }),
		with(func(t *api.DayTask) { t.Slots[0].Name = "ann" }),
		with(func(t *api.DayTask) { t.Slots[0].Name = "abcdefghij-1" }),
		with(func(t *api.DayTask) { t.Slots[0] = api.DaySlot{Name: "a", From: 2880, To: 2880, Seats: 1, Level: 20} }),
		with(func(t *api.DayTask) { t.Slots[0] = api.DaySlot{Name: "a", From: 0, To: 0, Seats: 20} }),
		with(func(t *api.DayTask) { t.Divers[0].Level, t.Divers[1].Level = 0, 20 }),
		with(func(t *api.DayTask) { t.Divers[0].Buddy, t.Divers[2].Buddy = 2, 1 }),
		with(func(t *api.DayTask) { t.Wishes[0] = wish(2, 1, 0) }),
		with(func(t *api.DayTask) { t.Wishes[0] = wish(2, 1000, 1000000, 1, 0) }),
		with(func(t *api.DayTask) { t.Wishes[3] = t.Wishes[0] }),
		with(func(t *api.DayTask) { t.Rules = api.DayRules{} }),
	} {
		n, e := day.CheckTask(x)
		expect(t, "CheckTask of "+flat(x), n, e, 0, api.OK)
	}
}

// dayFault is something wrong with the harbour, what is named, and the error.
type dayFault struct {
	spoil  func(t *api.DayTask)
	number int
	e      api.Errno
}

// slotFault, diverFault and wishFault are wrong with something that has a number.
func slotFault(number int, e api.Errno, spoil func(s *api.DaySlot)) dayFault {
	return dayFault{func(t *api.DayTask) { spoil(&t.Slots[number]) }, number, e}
}

func diverFault(number int, e api.Errno, spoil func(d *api.DayDiver)) dayFault {
	return dayFault{func(t *api.DayTask) { spoil(&t.Divers[number]) }, number, e}
}

func wishFault(number int, e api.Errno, spoil func(w *api.DayWish)) dayFault {
	return dayFault{func(t *api.DayTask) { spoil(&t.Wishes[number]) }, number, e}
}

func ruleFault(spoil func(r *api.DayRules)) dayFault {
	return dayFault{func(t *api.DayTask) { spoil(&t.Rules) }, 0, api.ErrRange}
}

// dayFaults are faults in the order of their errors.
func dayFaults() []dayFault {
	return []dayFault{
		{func(t *api.DayTask) { t.Slots = make([]api.DaySlot, 9) }, 0, api.ErrLarge},
		slotFault(0, api.ErrOrder, func(s *api.DaySlot) { s.From = 61 }),
		slotFault(1, api.ErrName, func(s *api.DaySlot) { s.Name = "p m" }),
		slotFault(1, api.ErrExists, func(s *api.DaySlot) { s.Name = "am" }),
		slotFault(1, api.ErrRange, func(s *api.DaySlot) { s.From = 2881 }),
		slotFault(1, api.ErrRange, func(s *api.DaySlot) { s.To = -1 }),
		slotFault(1, api.ErrRange, func(s *api.DaySlot) { s.Seats = 0 }),
		slotFault(1, api.ErrRange, func(s *api.DaySlot) { s.Level = 21 }),
		slotFault(1, api.ErrOrder, func(s *api.DaySlot) { s.To = s.From - 1 }),
		{func(t *api.DayTask) { t.Divers = make([]api.DayDiver, 21) }, 0, api.ErrLarge},
		diverFault(0, api.ErrForm, func(d *api.DayDiver) { d.Buddy = 0 }),
		diverFault(1, api.ErrName, func(d *api.DayDiver) { d.Name = "" }),
		diverFault(1, api.ErrExists, func(d *api.DayDiver) { d.Name = "ann" }),
		diverFault(1, api.ErrRange, func(d *api.DayDiver) { d.Level = -1 }),
		diverFault(1, api.ErrMissing, func(d *api.DayDiver) { d.Buddy = 3 }),
		diverFault(1, api.ErrForm, func(d *api.DayDiver) { d.Buddy = 1 }),
		{func(t *api.DayTask) { t.Wishes = make([]api.DayWish, 31) }, 0, api.ErrLarge},
		wishFault(1, api.ErrRange, func(w *api.DayWish) { w.Gas = -1 }),
		wishFault(2, api.ErrMissing, func(w *api.DayWish) { w.Diver = 3 }),
		wishFault(2, api.ErrMissing, func(w *api.DayWish) { w.Slots = []int{0, 2, 0} }),
		wishFault(2, api.ErrExists, func(w *api.DayWish) { w.Slots = []int{1, 1, 2} }),
		wishFault(2, api.ErrRange, func(w *api.DayWish) { w.Value = 0 }),
		wishFault(2, api.ErrRange, func(w *api.DayWish) { w.Gas = 1000001 }),
		wishFault(3, api.ErrMissing, func(w *api.DayWish) { w.Diver = -1 }),
		ruleFault(func(r *api.DayRules) { r.Guide = 21 }),
		ruleFault(func(r *api.DayRules) { r.Gas = -1 }),
	}
}

// P9.1, R1: of several errors of a day the first one is told, with what is named.
func TestFaultsOfDays(t *testing.T) {
	faults := dayFaults()
	try := func(laid ...int) {
		x := harbour(60)
		slices.Sort(laid)
		// The last fault is laid first, as an earlier one may take its place.
		for _, i := range slices.Backward(laid) {
			faults[i].spoil(&x)
		}
		n, e := day.CheckTask(x)
		expect(t, "CheckTask of "+flat(x), n, e, faults[laid[0]].number, faults[laid[0]].e)
	}
	for i := range faults {
		try(i)
		for k := range i {
			try(i, k)
		}
	}
	c := newChance(1)
	for range 3000 {
		try(c.Perm(len(faults))[:c.from(3, 12)]...)
	}
}

// P9.1: all that may be wrong with one thing alone.
func TestCheckTask(t *testing.T) {
	for _, f := range []dayFault{
		slotFault(0, api.ErrName, func(s *api.DaySlot) { s.Name = "" }),
		slotFault(0, api.ErrName, func(s *api.DaySlot) { s.Name = "abcdefghijklm" }),
		slotFault(0, api.ErrName, func(s *api.DaySlot) { s.Name = "1am" }),
		slotFault(0, api.ErrRange, func(s *api.DaySlot) { s.From = -1 }),
		slotFault(0, api.ErrRange, func(s *api.DaySlot) { s.From, s.To = 2881, 2881 }),
		slotFault(0, api.ErrRange, func(s *api.DaySlot) { s.From, s.To = -1, -2 }),
		slotFault(0, api.ErrRange, func(s *api.DaySlot) { s.To = 2881 }),
		slotFault(0, api.ErrRange, func(s *api.DaySlot) { s.To = math.MaxInt }),
		slotFault(1, api.ErrRange, func(s *api.DaySlot) { s.Seats = -1 }),
		slotFault(1, api.ErrRange, func(s *api.DaySlot) { s.Seats = 21 }),
		slotFault(1, api.ErrRange, func(s *api.DaySlot) { s.Level = -1 }),
		slotFault(1, api.ErrOrder, func(s *api.DaySlot) { s.From = 2880 }),
		diverFault(2, api.ErrName, func(d *api.DayDiver) { d.Name = "e.e" }),
		diverFault(2, api.ErrExists, func(d *api.DayDiver) { d.Name = "bob" }),
		diverFault(2, api.ErrRange, func(d *api.DayDiver) { d.Level = 21 }),
		diverFault(2, api.ErrMissing, func(d *api.DayDiver) { d.Buddy = -2 }),
		diverFault(0, api.ErrMissing, func(d *api.DayDiver) { d.Buddy = 3 }),
		diverFault(2, api.ErrForm, func(d *api.DayDiver) { d.Buddy = 2 }),
		wishFault(0, api.ErrMissing, func(w *api.DayWish) { w.Diver = -1 }),
		wishFault(0, api.ErrMissing, func(w *api.DayWish) { w.Slots = []int{-1} }),
		wishFault(0, api.ErrMissing, func(w *api.DayWish) { w.Slots = []int{0, 1, 2} }),
		wishFault(3, api.ErrExists, func(w *api.DayWish) { w.Slots = []int{0, 1, 0} }),
		wishFault(3, api.ErrExists, func(w *api.DayWish) { w.Slots = slices.Repeat([]int{1}, 100000) }),
		wishFault(3, api.ErrRange, func(w *api.DayWish) { w.Value = -1 }),
		wishFault(3, api.ErrRange, func(w *api.DayWish) { w.Value = 1001 }),
		wishFault(3, api.ErrRange, func(w *api.DayWish) { w.Gas = -1 }),
		ruleFault(func(r *api.DayRules) { r.Guide = -1 }),
		ruleFault(func(r *api.DayRules) { r.Novice = -1 }),
		ruleFault(func(r *api.DayRules) { r.Novice = 21 }),
		ruleFault(func(r *api.DayRules) { r.Ratio = -1 }),
		ruleFault(func(r *api.DayRules) { r.Ratio = 21 }),
		ruleFault(func(r *api.DayRules) { r.Gap = -1 }),
		ruleFault(func(r *api.DayRules) { r.Gap = 2881 }),
		ruleFault(func(r *api.DayRules) { r.Gas = 30000001 }),
		{func(t *api.DayTask) { *t = crowd(9, 0, 0, 0) }, 0, api.ErrLarge},
		{func(t *api.DayTask) { *t = crowd(0, 21, 0, 0) }, 0, api.ErrLarge},
		{func(t *api.DayTask) { *t = crowd(0, 1, 31, 0) }, 0, api.ErrLarge},
		{func(t *api.DayTask) { *t = crowd(0, 0, 1, 0) }, 0, api.ErrMissing},
		{func(t *api.DayTask) { *t = crowd(0, 1, 1, 1) }, 0, api.ErrMissing},
	} {
		x := with(f.spoil)
		n, e := day.CheckTask(x)
		expect(t, "CheckTask of "+flat(x), n, e, f.number, f.e)
	}
}

// P9.7: the day of the example without each of its slots, and without slots that it has not.
func TestWithout(t *testing.T) {
	x, l, e := day.Without(harbour(60), 0)
	want := with(func(t *api.DayTask) {
		t.Slots = t.Slots[1:]
		t.Wishes[0].Slots, t.Wishes[1].Slots, t.Wishes[2].Slots, t.Wishes[3].Slots = []int{0}, nil, []int{0}, []int{0}
	})
	expect(t, "the day without the slot 0", x, e, want, api.OK)
	expect(t, "its numbers", l, e, []int{-1, 0}, api.OK)
	x, l, e = day.Without(harbour(60), 1)
	want = with(func(t *api.DayTask) {
		t.Slots = t.Slots[:1]
		t.Wishes[0].Slots, t.Wishes[2].Slots, t.Wishes[3].Slots = []int{0}, []int{0}, nil
	})
	expect(t, "the day without the slot 1", x, e, want, api.OK)
	expect(t, "its numbers", l, e, []int{0, -1}, api.OK)
	for _, slot := range []int{math.MinInt, -1, 2, 8, math.MaxInt} {
		x, l, e := day.Without(harbour(60), slot)
		refuse(t, "the day without the slot "+flat(slot), x, e, api.ErrMissing)
		refuse(t, "its numbers", l, e, api.ErrMissing)
	}
	x, _, e = day.Without(api.DayTask{}, 0)
	refuse(t, "a day without slots", x, e, api.ErrMissing)
}

// P9.7: a day without a slot has the same slots else, in the same order, and its wishes name the same ones.
func TestWithoutByChance(t *testing.T) {
	someDays(2, 300, 8, func(c chance, before api.DayTask) {
		before.Wishes = append(before.Wishes, wish(0, 1, 1, c.Perm(len(before.Slots))...))
		out := c.Intn(len(before.Slots))
		x, l, e := day.Without(before, out)
		expect(t, "Divers", x.Divers, e, before.Divers, api.OK)
		expect(t, "Rules", x.Rules, e, before.Rules, api.OK)
		if len(x.Slots) != len(before.Slots)-1 || len(x.Wishes) != len(before.Wishes) || len(l) != len(before.Slots) {
			t.Fatalf("%+v without %d: %+v, %v", before, out, x, l)
		}
		for slot, s := range before.Slots {
			if slot == out {
				expect(t, "the number of what is left out", l[slot], e, -1, api.OK)
				continue
			}
			expect(t, "a slot with its number", x.Slots[l[slot]], e, s, api.OK)
		}
		if !slices.IsSorted(slices.DeleteFunc(slices.Clone(l), func(n int) bool { return n < 0 })) {
			t.Errorf("numbers of slots: %v", l)
		}
		for w, after := range x.Wishes {
			var slots []int
			for _, slot := range before.Wishes[w].Slots {
				if slot != out {
					slots = append(slots, l[slot])
				}
			}
			want := before.Wishes[w]
			want.Slots = slots
			expect(t, "a wish", after, e, want, api.OK)
		}
		n, e := day.CheckTask(x)
		expect(t, "CheckTask", n, e, 0, api.OK)
	})
}
