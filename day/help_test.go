package day_test

import (
	"fmt"
	"math"
	"math/rand"
	"reflect"
	"slices"
	"testing"

	"shotline/api"
	"shotline/day"
)

// The tests use the exported functions alone. What they expect is found in the words of the definitions, by model.

var extremes = []int{math.MinInt, -10000001, -3, -2, -1, 0, 1, 2, 3, 4, 7, 8, 9, 19, 20, 21, 30, 31, 60, 1000, 1001, 1500, 2880, 2881, 3000, 30000, 30001, 1000000, 1000001, 30000000, 30000001, 1 << 40, math.MaxInt}

// harbour is the day of the examples, with a gap.
func harbour(gap int) api.DayTask {
	return api.DayTask{
		Slots:  []api.DaySlot{{Name: "am", From: 0, To: 60, Seats: 2, Level: 1}, {Name: "pm", From: 120, To: 180, Seats: 2, Level: 1}},
		Divers: []api.DayDiver{{Name: "ann", Level: 5, Buddy: -1}, {Name: "bob", Level: 1, Buddy: 0}, {Name: "eve", Level: 1, Buddy: -1}},
		Wishes: []api.DayWish{wish(0, 10, 20, 0, 1), wish(1, 30, 20, 0), wish(2, 20, 30, 0, 1), wish(0, 5, 20, 1)},
		Rules:  api.DayRules{Guide: 3, Novice: 2, Ratio: 1, Gap: gap, Gas: 100},
	}
}

func wish(diver, value, gas int, slots ...int) api.DayWish {
	return api.DayWish{Diver: diver, Value: value, Gas: gas, Slots: slots}
}

// with is the harbour with something else.
func with(spoil func(t *api.DayTask)) api.DayTask {
	t := harbour(60)
	spoil(&t)
	return t
}

// crowd is a right day of so many slots, divers and wishes, which breaks no rule however many wishes are granted: the divers
// are guides, and every wish is one of another diver, if there are as many. Each wish names so many slots.
func crowd(slots, divers, wishes, named int) api.DayTask {
	var t api.DayTask
	for i := range slots {
		t.Slots = append(t.Slots, api.DaySlot{Name: fmt.Sprint("s", i), From: 100 * i, To: 100*i + 50, Seats: 20})
	}
	for i := range divers {
		t.Divers = append(t.Divers, api.DayDiver{Name: fmt.Sprint("d", i), Level: 20, Buddy: -1})
	}
	for i := range wishes {
		w := wish(i%max(divers, 1), 1+i, 1)
		for k := range named {
			w.Slots = append(w.Slots, k)
		}
		t.Wishes = append(t.Wishes, w)
	}
	t.Rules.Gas = 30
	return t
}

// named is a crowd in which the wishes name so many slots, one by one.
func named(counts ...int) api.DayTask {
	t := crowd(8, 20, len(counts), 8)
	for i, n := range counts {
		t.Wishes[i].Slots = t.Wishes[i].Slots[:n]
	}
	return t
}

func split(wish int, next ...int) api.DayNode {
	return api.DayNode{Kind: api.DaySplit, Wish: wish, Next: next}
}

func leaf(kind int) api.DayNode { return api.DayNode{Kind: kind} }

var hard, soft, poor = leaf(api.DayHard), leaf(api.DaySoft), leaf(api.DayPoor)

// flat is a value in which a nil list and an empty one are the same.
func flat(x any) string { return fmt.Sprintf("%+v", x) }

func expect(t *testing.T, what string, got any, e api.Errno, want any, wanted api.Errno) {
	t.Helper()
	if e != wanted || flat(got) != flat(want) || reflect.TypeOf(got) != reflect.TypeOf(want) {
		t.Errorf("%s: %+v, error %d; want %+v, error %d", what, got, e, want, wanted)
	}
}

// refuse checks that there is this error, beside a zero value.
func refuse[T any](t *testing.T, what string, got T, e, wanted api.Errno) {
	t.Helper()
	var zero T
	expect(t, what, got, e, zero, wanted)
}

// asked is all that the functions are asked with.
type asked struct {
	t          api.DayTask
	plan       []int
	value      int
	tree       []api.DayNode
	set        []int
	old, now   []int
	slot, wish int
	at         [2]int
}

// question is what every function answers.
func question() asked {
	return asked{
		t: harbour(61), plan: []int{0, -1, 0, -1}, value: 65, tree: []api.DayNode{poor}, set: []int{0, 3},
		old: []int{0, 0, 1, 1}, now: []int{0, 0, -1, -1}, slot: 0, wish: 2, at: [2]int{2, -1},
	}
}

// functions call the functions of the package but for Parse.
func functions() map[string]func(a asked) (any, api.Errno) {
	return map[string]func(a asked) (any, api.Errno){
		"CheckTask": func(a asked) (any, api.Errno) { return told(day.CheckTask(a.t)) },
		"CheckPlan": func(a asked) (any, api.Errno) {
			v, _, e := day.CheckPlan(a.t, a.plan)
			return v, e
		},
		"what CheckPlan names": func(a asked) (any, api.Errno) {
			_, n, e := day.CheckPlan(a.t, a.plan)
			return n, e
		},
		"Hard": func(a asked) (any, api.Errno) { return told(day.Hard(a.t, a.plan)) },
		"BestPlan": func(a asked) (any, api.Errno) {
			p, _, _, e := day.BestPlan(a.t)
			return p, e
		},
		"the best value": func(a asked) (any, api.Errno) {
			_, v, _, e := day.BestPlan(a.t)
			return v, e
		},
		"the tree of BestPlan": func(a asked) (any, api.Errno) {
			_, _, tree, e := day.BestPlan(a.t)
			return tree, e
		},
		"CheckTree":     func(a asked) (any, api.Errno) { return told(day.CheckTree(a.t, a.value, a.tree)) },
		"SmallestClash": func(a asked) (any, api.Errno) { return told(day.SmallestClash(a.t)) },
		"CheckClash":    func(a asked) (any, api.Errno) { return nil, day.CheckClash(a.t, a.set) },
		"Reschedule": func(a asked) (any, api.Errno) {
			p, _, e := day.Reschedule(a.t, a.old)
			return p, e
		},
		"the changes of Reschedule": func(a asked) (any, api.Errno) {
			_, n, e := day.Reschedule(a.t, a.old)
			return n, e
		},
		"Moves":   func(a asked) (any, api.Errno) { return told(day.Moves(a.old, a.now)) },
		"Roster":  func(a asked) (any, api.Errno) { return told(day.Roster(a.t, a.plan, a.slot)) },
		"Seats":   func(a asked) (any, api.Errno) { return told(day.Seats(a.t, a.plan)) },
		"GasLeft": func(a asked) (any, api.Errno) { return told(day.GasLeft(a.t, a.plan)) },
		"FreeFor": func(a asked) (any, api.Errno) { return told(day.FreeFor(a.t, a.plan, a.wish)) },
		"Grant":   func(a asked) (any, api.Errno) { return told(day.Grant(a.t, a.plan, a.at)) },
		"Without": func(a asked) (any, api.Errno) {
			x, _, e := day.Without(a.t, a.slot)
			return x, e
		},
		"the numbers of Without": func(a asked) (any, api.Errno) {
			_, l, e := day.Without(a.t, a.slot)
			return l, e
		},
		"Print": func(a asked) (any, api.Errno) { return told(day.Print(a.t)) },
	}
}

func told[T any](x T, e api.Errno) (any, api.Errno) { return x, e }

// tellsNumber tells whether a function returns a number beside an error.
func tellsNumber(name string) bool {
	return slices.Contains([]string{"CheckTask", "what CheckPlan names", "Hard", "CheckTree"}, name)
}

// isZero tells whether a value is the zero value of its type, or an empty list.
func isZero(x any) bool {
	v := reflect.ValueOf(x)
	return !v.IsValid() || v.IsZero() || v.Kind() == reflect.Slice && v.Len() == 0
}

// chance makes values of all kinds.
type chance struct{ *rand.Rand }

func newChance(seed int) chance { return chance{rand.New(rand.NewSource(int64(seed)))} }

func (c chance) from(least, most int) int { return least + c.Intn(most-least+1) }

// day returns a right day with at most so many wishes, on which any rule may be broken. Times are so few that slots meet, and
// lie just as far from each other as the gap asks for.
func (c chance) day(wishes int) api.DayTask {
	var t api.DayTask
	for i := range c.from(1, 4) {
		from := 10 * c.Intn(8)
		t.Slots = append(t.Slots, api.DaySlot{Name: fmt.Sprint("s", i), From: from, To: from + 10*c.Intn(4), Seats: c.from(1, 3), Level: c.Intn(3)})
	}
	divers := c.from(1, 5)
	for i := range divers {
		buddy := c.from(-2*divers, divers-1)
		if buddy < 0 || buddy == i {
			buddy = -1
		}
		t.Divers = append(t.Divers, api.DayDiver{Name: fmt.Sprint("d", i), Level: c.Intn(6), Buddy: buddy})
	}
	for range c.Intn(wishes + 1) {
		t.Wishes = append(t.Wishes, c.wish(len(t.Slots), divers))
	}
	t.Rules = api.DayRules{Guide: c.Intn(6), Novice: c.Intn(5), Ratio: c.Intn(3), Gap: c.Intn(31), Gas: c.from(0, 5*wishes)}
	for modelOf(t).ways() > api.MaxDayWays {
		t.Wishes = t.Wishes[1:]
	}
	return t
}

func (c chance) wish(slots, divers int) api.DayWish {
	w := wish(c.Intn(divers), c.from(1, 20), c.Intn(10))
	for _, slot := range c.Perm(slots) {
		if c.Intn(3) > 0 {
			w.Slots = append(w.Slots, slot)
		}
	}
	if c.Intn(12) == 0 {
		w.Slots = nil
	}
	return w
}

// plan returns any plan of a day.
func (c chance) plan(t api.DayTask) []int {
	var plan []int
	for _, w := range t.Wishes {
		l := append([]int{-1}, w.Slots...)
		plan = append(plan, l[c.Intn(len(l))])
	}
	return plan
}

// someDays calls a function with days by chance.
func someDays(seed, days, wishes int, try func(c chance, t api.DayTask)) {
	c := newChance(seed)
	for range days {
		try(c, c.day(wishes))
	}
}

// roomy returns a list with room for more.
func roomy[T any](l []T) []T {
	return append(make([]T, 0, len(l)+5), l...)
}
