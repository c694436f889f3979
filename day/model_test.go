package day_test

import (
	"cmp"
	"slices"

	"shotline/api"
)

// model is a right day. What it tells it finds in all plans, and all pairs of wishes.
type model struct{ api.DayTask }

func modelOf(t api.DayTask) model { return model{t} }

// ways counts no further than it has to.
func (m model) ways() int {
	n := 1
	for _, w := range m.Wishes {
		if n <= api.MaxDayWays {
			n *= len(w.Slots) + 1
		}
	}
	return n
}

// plans are all plans: those of the wishes but for the last one, with each number of the last one.
func (m model) plans() [][]int {
	l := [][]int{{}}
	for _, w := range m.Wishes {
		var longer [][]int
		for _, p := range l {
			for _, number := range append([]int{-1}, w.Slots...) {
				longer = append(longer, append(slices.Clone(p), number))
			}
		}
		l = longer
	}
	return l
}

// in are the divers in a slot.
func (m model) in(plan []int, slot int) map[int]bool {
	divers := map[int]bool{}
	for w, at := range plan {
		if at == slot {
			divers[m.Wishes[w].Diver] = true
		}
	}
	return divers
}

// count is how many divers of a slot are of a kind.
func (m model) count(plan []int, slot int, is func(d api.DayDiver) bool) int {
	n := 0
	for d := range m.in(plan, slot) {
		if is(m.Divers[d]) {
			n++
		}
	}
	return n
}

func (m model) isNovice(d api.DayDiver) bool { return d.Level < m.Rules.Novice }
func (m model) isGuide(d api.DayDiver) bool  { return d.Level >= m.Rules.Guide }

func (m model) granted(plan []int, slot int) int {
	n := 0
	for _, at := range plan {
		if at == slot {
			n++
		}
	}
	return n
}

func (m model) gas(plan []int) int {
	n := 0
	for w, at := range plan {
		if at >= 0 {
			n += m.Wishes[w].Gas
		}
	}
	return n
}

func (m model) value(plan []int) int {
	n := 0
	for w, at := range plan {
		if at >= 0 {
			n += m.Wishes[w].Value
		}
	}
	return n
}

// near tells whether two slots are too near for one diver.
func (m model) near(x, y api.DaySlot) bool {
	switch {
	case x.From > y.From:
		return x.From < y.To+m.Rules.Gap
	case x.From < y.From:
		return y.From < x.To+m.Rules.Gap
	}
	return x.From < y.To+m.Rules.Gap || y.From < x.To+m.Rules.Gap
}

// broken is what is named where something is wrong, and the error.
type broken struct {
	number int
	e      api.Errno
}

// hard are the hard rules that a plan breaks, with what is named, in their order.
func (m model) hard(plan []int) []broken {
	var l [5][]broken
	for w, at := range plan {
		if at < 0 {
			continue
		}
		d := m.Wishes[w].Diver
		if m.Divers[d].Level < m.Slots[at].Level {
			l[0] = append(l[0], broken{w, api.ErrKind})
		}
		for v, before := range plan[:w] {
			if m.Wishes[v].Diver != d || before < 0 {
				continue
			}
			if before == at {
				l[1] = append(l[1], broken{w, api.ErrDouble})
			}
			if m.near(m.Slots[before], m.Slots[at]) {
				l[2] = append(l[2], broken{w, api.ErrBusy})
			}
		}
	}
	for slot, s := range m.Slots {
		if m.granted(plan, slot) > s.Seats {
			l[3] = append(l[3], broken{slot, api.ErrFull})
		}
	}
	if m.gas(plan) > m.Rules.Gas {
		l[4] = append(l[4], broken{0, api.ErrStock})
	}
	return slices.Concat(l[:]...)
}

// others are the other rules that a plan breaks, with what is named, in their order.
func (m model) others(plan []int) []broken {
	var l []broken
	for w, at := range plan {
		buddy := m.Divers[m.Wishes[w].Diver].Buddy
		if at >= 0 && buddy >= 0 && !m.in(plan, at)[buddy] {
			l = append(l, broken{w, api.ErrOpen})
		}
	}
	for slot := range m.Slots {
		if m.count(plan, slot, m.isNovice) > m.Rules.Ratio*m.count(plan, slot, m.isGuide) {
			l = append(l, broken{slot, api.ErrGap})
		}
	}
	return l
}

// first is the first rule that is broken, or none.
func first(l []broken) broken {
	if len(l) == 0 {
		return broken{0, api.OK}
	}
	return l[0]
}

func (m model) wrong(plan []int) broken {
	return first(append(m.hard(plan), m.others(plan)...))
}

func (m model) isRight(plan []int) bool { return m.wrong(plan).e == api.OK }

// right are all right plans.
func (m model) right() [][]int {
	return slices.DeleteFunc(m.plans(), func(plan []int) bool { return !m.isRight(plan) })
}

func (m model) best() []int {
	return slices.MinFunc(m.right(), func(p, q []int) int {
		return cmp.Or(m.value(q)-m.value(p), slices.Compare(p, q))
	})
}

func changes(p, q []int) int {
	n := 0
	for i := range p {
		if p[i] != q[i] {
			n++
		}
	}
	return n
}

func (m model) rescheduled(old []int) []int {
	return slices.MinFunc(m.right(), func(p, q []int) int {
		return cmp.Or(changes(p, old)-changes(q, old), m.value(q)-m.value(p), slices.Compare(p, q))
	})
}

// grants tells whether one of some right plans grants all wishes of a set.
func grants(right [][]int, set []int) bool {
	for _, plan := range right {
		all := true
		for _, w := range set {
			all = all && plan[w] >= 0
		}
		if all {
			return true
		}
	}
	return false
}

// subsets are all sets of wishes, by the numbers of their members, then lexicographically.
func (m model) subsets() [][]int {
	l := [][]int{{}}
	for w := range m.Wishes {
		for _, set := range slices.Clone(l) {
			l = append(l, append(slices.Clone(set), w))
		}
	}
	slices.SortFunc(l, func(a, b []int) int { return cmp.Or(len(a)-len(b), slices.Compare(a, b)) })
	return l
}

// clash is the error of a set whose numbers are right.
func (m model) clash(right [][]int, set []int) api.Errno {
	if grants(right, set) {
		return api.ErrProof
	}
	for i := range set {
		if !grants(right, slices.Delete(slices.Clone(set), i, i+1)) {
			return api.ErrClash
		}
	}
	return api.OK
}

// decided is what is decided of some wishes.
type decided map[int]int

// plan is the plan that grants what is decided so, and nothing else.
func (m model) plan(d decided) []int {
	plan := slices.Repeat([]int{-1}, len(m.Wishes))
	for w, at := range d {
		plan[w] = at
	}
	return plan
}

// open are how many wishes that are not decided name a slot, and are those of a kind of divers.
func (m model) open(d decided, slot int, is func(diver int) bool) int {
	n := 0
	for w, x := range m.Wishes {
		if _, ok := d[w]; !ok && is(x.Diver) && slices.Contains(x.Slots, slot) {
			n++
		}
	}
	return n
}

// holds tells whether a leaf of a kind holds.
func (m model) holds(d decided, kind, value int) bool {
	plan := m.plan(d)
	switch kind {
	case api.DayHard:
		return len(m.hard(plan)) > 0
	case api.DayPoor:
		sum := 0
		for w, x := range m.Wishes {
			if at, ok := d[w]; !ok || at != -1 {
				sum += x.Value
			}
		}
		return sum <= value
	}
	for _, x := range m.others(plan) {
		switch x.e {
		case api.ErrOpen:
			buddy := m.Divers[m.Wishes[x.number].Diver].Buddy
			if m.open(d, plan[x.number], func(diver int) bool { return diver == buddy }) == 0 {
				return true
			}
		case api.ErrGap:
			guides := m.count(plan, x.number, m.isGuide) + m.open(d, x.number, func(diver int) bool { return m.isGuide(m.Divers[diver]) })
			if m.count(plan, x.number, m.isNovice) > m.Rules.Ratio*guides {
				return true
			}
		}
	}
	return false
}

// below is the first node that is wrong, of one and all that is below it.
func (m model) below(d decided, value int, tree []api.DayNode, number int) broken {
	node := tree[number]
	if node.Kind < 0 || node.Kind > 3 {
		return broken{number, api.ErrKind}
	}
	if node.Kind != api.DaySplit {
		if !m.holds(d, node.Kind, value) {
			return broken{number, api.ErrProof}
		}
		return broken{0, api.OK}
	}
	if node.Wish < 0 || node.Wish >= len(m.Wishes) {
		return broken{number, api.ErrMissing}
	}
	if _, ok := d[node.Wish]; ok {
		return broken{number, api.ErrExists}
	}
	slots := m.Wishes[node.Wish].Slots
	if len(node.Next) != len(slots)+1 {
		return broken{number, api.ErrShape}
	}
	for _, next := range node.Next {
		if next < 0 || next >= len(tree) {
			return broken{number, api.ErrMissing}
		}
		if next <= number {
			return broken{number, api.ErrOrder}
		}
	}
	for i, next := range node.Next {
		more := decided{node.Wish: -1}
		if i > 0 {
			more[node.Wish] = slots[i-1]
		}
		for w, at := range d {
			more[w] = at
		}
		if x := m.below(more, value, tree, next); x.e != api.OK {
			return x
		}
	}
	return broken{0, api.OK}
}
