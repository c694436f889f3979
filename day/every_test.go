package day_test

import (
	"slices"
	"testing"

	"shotline/api"
	"shotline/day"
)

// P1: no function panics, whatever its numbers and names, and beside an error each other result is its zero value.
func TestEveryNumber(t *testing.T) {
	numbers := func(a *asked) []*int {
		s, d, w, r := &a.t.Slots[1], &a.t.Divers[1], &a.t.Wishes[2], &a.t.Rules
		return []*int{&s.From, &s.To, &s.Seats, &s.Level, &d.Level, &d.Buddy, &w.Diver, &w.Slots[0], &w.Slots[1], &w.Value, &w.Gas, &r.Guide, &r.Novice, &r.Ratio, &r.Gap, &r.Gas,
			&a.plan[0], &a.plan[3], &a.value, &a.tree[0].Kind, &a.tree[0].Wish, &a.set[0], &a.set[1], &a.old[0], &a.old[3], &a.now[0], &a.now[3], &a.slot, &a.wish, &a.at[0], &a.at[1]}
	}
	for i := range numbers(new(question())) {
		for _, n := range extremes {
			a := question()
			*numbers(&a)[i] = n
			everyFunction(t, a)
		}
	}
	for _, name := range []string{"", " ", "am", "ann", "a b", "\n", "\xff", "abcdefghijklm"} {
		a := question()
		a.t.Slots[1].Name = name
		everyFunction(t, a)
		a = question()
		a.t.Divers[2].Name = name
		everyFunction(t, a)
	}
	c := newChance(14)
	for range 3000 {
		a := question()
		for range 3 {
			*numbers(&a)[c.Intn(len(numbers(&a)))] = extremes[c.Intn(len(extremes))]
		}
		everyFunction(t, a)
	}
}

// P1: no function panics, however long its lists are.
func TestEveryLength(t *testing.T) {
	everyFunction(t, asked{})
	lists := map[string]func(a *asked, n int){
		"slots":    func(a *asked, n int) { a.t.Slots = make([]api.DaySlot, n) },
		"divers":   func(a *asked, n int) { a.t.Divers = make([]api.DayDiver, n) },
		"wishes":   func(a *asked, n int) { a.t.Wishes = make([]api.DayWish, n) },
		"crowd":    func(a *asked, n int) { a.t = crowd(min(n, 8), min(n, 20), n, min(n, 8)) },
		"shut":     func(a *asked, n int) { a.t = crowd(8, 20, n, 0) },
		"plan":     func(a *asked, n int) { a.plan = make([]int, n) },
		"no plan":  func(a *asked, n int) { a.plan = slices.Repeat([]int{-1}, n) },
		"nodes":    func(a *asked, n int) { a.tree = make([]api.DayNode, n) },
		"branches": func(a *asked, n int) { a.tree = []api.DayNode{{Next: slices.Repeat([]int{1}, n)}, poor} },
		"set":      func(a *asked, n int) { a.set = make([]int, n) },
		"old":      func(a *asked, n int) { a.old = make([]int, n) },
		"now":      func(a *asked, n int) { a.now = make([]int, n) },
	}
	for _, first := range lists {
		for _, second := range lists {
			for _, n := range []int{0, 1, 2, 3, 4, 8, 9, 20, 21, 30, 31} {
				for _, m := range []int{0, 1, 3, 30, 3001} {
					a := question()
					first(&a, n)
					second(&a, m)
					everyFunction(t, a)
				}
			}
		}
	}
}

// everyFunction calls each function. Some return a number beside an error.
func everyFunction(t *testing.T, a asked) {
	t.Helper()
	for name, call := range functions() {
		x, e := call(a)
		if e != api.OK && !isZero(x) && !tellsNumber(name) {
			t.Errorf("%s of %+v: %v, error %d", name, a, x, e)
		}
	}
}

// R4: a nil list is an empty one.
func TestEmptyLists(t *testing.T) {
	a := asked{}
	b := asked{
		t:    api.DayTask{Slots: []api.DaySlot{}, Divers: []api.DayDiver{}, Wishes: []api.DayWish{}},
		plan: []int{}, tree: []api.DayNode{}, set: []int{}, old: []int{}, now: []int{},
	}
	for range 2 {
		for name, call := range functions() {
			x, e := call(a)
			y, e2 := call(b)
			expect(t, name, flat(x), e, flat(y), e2)
		}
		a, b = question(), question()
		a.t.Wishes[1].Slots, b.t.Wishes[1].Slots = nil, []int{}
		a.tree, b.tree = []api.DayNode{split(1, 1), poor}, []api.DayNode{split(1, 1), {Kind: api.DayPoor, Next: []int{}}}
	}
}

// asking are questions about a day by chance, with room behind each list.
func (c chance) asking(x api.DayTask) asked {
	a := asked{t: x, plan: roomy(c.plan(x)), old: roomy(c.plan(x)), now: roomy(c.plan(x)), slot: c.from(0, 3), wish: c.from(0, 3), at: [2]int{c.from(0, 3), c.from(-1, 3)}}
	if c.Intn(2) == 0 {
		a.plan = roomy(slices.Repeat([]int{-1}, len(x.Wishes)))
	}
	_, v, tree, _ := day.BestPlan(x)
	set, _ := day.SmallestClash(x)
	a.value, a.tree, a.set = v, roomy(tree), roomy(set)
	a.t.Slots, a.t.Divers, a.t.Wishes = roomy(x.Slots), roomy(x.Divers), roomy(x.Wishes)
	for w := range a.t.Wishes {
		a.t.Wishes[w].Slots = roomy(a.t.Wishes[w].Slots)
	}
	return a
}

// all is a question with what stands behind its lists.
func (a asked) all() string {
	s := flat(a) + flat(a.t.Slots[:cap(a.t.Slots)]) + flat(a.t.Divers[:cap(a.t.Divers)]) + flat(a.t.Wishes[:cap(a.t.Wishes)]) + flat(a.tree[:cap(a.tree)])
	for _, w := range a.t.Wishes {
		s += flat(w.Slots[:cap(w.Slots)])
	}
	for _, l := range [][]int{a.plan, a.set, a.old, a.now} {
		s += flat(l[:cap(l)])
	}
	return s
}

// R6, R7: no argument is changed, and results come again.
func TestArgumentsStay(t *testing.T) {
	someDays(15, 100, 5, func(c chance, x api.DayTask) {
		a := c.asking(x)
		before := a.all()
		results := map[string]string{}
		for range 3 {
			for name, call := range functions() {
				x, e := call(a)
				again := flat(x) + flat(e)
				if first, ok := results[name]; ok && first != again || a.all() != before {
					t.Fatalf("%s of %s: %s, then %s; now it is %+v", name, before, first, again, a)
				}
				results[name] = again
			}
		}
	})
}

// R6: a list that is returned may be changed, and nothing else changes.
func TestResultsAreNew(t *testing.T) {
	for name, call := range functions() {
		a := question()
		x, _ := call(a)
		before := flat(x)
		spoil(x)
		if y, _ := call(a); flat(y) != before || flat(a) != flat(question()) {
			t.Errorf("%s: %v, then %s; now it is asked with %+v", name, y, before, a)
		}
	}
	x, _, _ := day.Parse(harbourText)
	spoil(x)
	y, _, e := day.Parse(harbourText)
	expect(t, "Parse", y, e, harbour(60), api.OK)
	// No two lists of one result share memory: what is added to one is not in another one.
	less, _, _ := day.Without(harbour(60), 1)
	for w, x := range less.Wishes {
		less.Wishes[w].Slots = append(x.Slots, 7)
	}
	expect(t, "the slots of wishes", [][]int{less.Wishes[0].Slots, less.Wishes[2].Slots, less.Wishes[3].Slots}, api.OK, [][]int{{0, 7}, {0, 7}, {7}}, api.OK)
}

// spoil changes the elements of a list, or of the lists of a day.
func spoil(x any) {
	switch l := x.(type) {
	case []int:
		clear(l)
	case [][3]int:
		clear(l)
	case []string:
		clear(l)
	case []api.DayNode:
		for _, node := range l {
			clear(node.Next)
		}
		clear(l)
	case api.DayTask:
		clear(l.Slots)
		clear(l.Divers)
		for _, w := range l.Wishes {
			for i := range w.Slots {
				w.Slots[i] = 99
			}
		}
		clear(l.Wishes)
	}
}
