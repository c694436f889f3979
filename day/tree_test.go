package day_test

import (
	"math"
	"slices"
	"testing"

	"shotline/api"
	"shotline/day"
)

// P9.3: trees of the examples' days, and what is wrong with one.
func TestCheckTree(t *testing.T) {
	x := harbour(61)
	best := []api.DayNode{
		split(1, 1, 2), poor, // without bob there is 35 at most
		split(0, 3, 4, 5), soft, // bob needs ann in the morning
		split(3, 6, 7), soft,
		split(2, 8, 9, 10), hard, // ann is too near
		poor, hard, // there are two seats
		soft, // eve needs a guide
	}
	many := append(slices.Repeat([]api.DayNode{poor}, 2999), split(9))
	for _, test := range []struct {
		value  int
		tree   []api.DayNode
		number int
		e      api.Errno
	}{
		{40, best, 0, api.OK},
		{45, best, 0, api.OK},
		{39, best, 8, api.ErrProof},
		{34, best, 1, api.ErrProof},
		{65, []api.DayNode{poor}, 0, api.OK},
		{64, []api.DayNode{poor}, 0, api.ErrProof},
		{30000, []api.DayNode{poor}, 0, api.OK},
		{30000, []api.DayNode{hard}, 0, api.ErrProof},
		{30000, []api.DayNode{soft}, 0, api.ErrProof},
		{0, []api.DayNode{poor}, 0, api.ErrProof},
		{-1, []api.DayNode{poor}, 0, api.ErrRange},
		{30001, []api.DayNode{poor}, 0, api.ErrRange},
		{-1, nil, 0, api.ErrRange},
		{65, nil, 0, api.ErrShape},
		{65, many, 0, api.OK},
		{65, append(many, poor), 0, api.ErrShape},
		{64, append(many, poor), 0, api.ErrShape},
		// Kinds.
		{65, []api.DayNode{leaf(4)}, 0, api.ErrKind},
		{65, []api.DayNode{leaf(-1)}, 0, api.ErrKind},
		{65, []api.DayNode{{Kind: 4, Wish: 9, Next: []int{9}}}, 0, api.ErrKind},
		{65, []api.DayNode{split(1, 1, 2), poor, leaf(math.MaxInt)}, 2, api.ErrKind},
		// Wishes of splits.
		{65, []api.DayNode{split(4)}, 0, api.ErrMissing},
		{65, []api.DayNode{split(-1)}, 0, api.ErrMissing},
		{65, []api.DayNode{split(math.MinInt, 0, 0)}, 0, api.ErrMissing},
		{65, []api.DayNode{split(1, 1, 2), poor, split(1)}, 2, api.ErrExists},
		{65, []api.DayNode{split(1, 1, 1), split(1, 2, 2), poor}, 1, api.ErrExists},
		{65, []api.DayNode{split(1, 1, 2), split(3, 2, 2), split(1, 3, 3), poor}, 2, api.ErrExists},
		{65, []api.DayNode{split(1, 1, 2), split(3, 3, 3), split(3, 3, 3), poor}, 0, api.OK},
		// Branches.
		{65, []api.DayNode{split(1)}, 0, api.ErrShape},
		{65, []api.DayNode{split(1, 7)}, 0, api.ErrShape},
		{65, []api.DayNode{split(1, 1, 1, 1), poor}, 0, api.ErrShape},
		{65, []api.DayNode{split(0, 1, 1), poor}, 0, api.ErrShape},
		{65, []api.DayNode{split(1, 2, 1), poor}, 0, api.ErrMissing},
		{65, []api.DayNode{split(1, 1, -1), poor}, 0, api.ErrMissing},
		{65, []api.DayNode{split(1, math.MaxInt, 0), poor}, 0, api.ErrMissing},
		{65, []api.DayNode{split(1, 0, 2), poor}, 0, api.ErrOrder},
		{65, []api.DayNode{split(1, 1, 0), leaf(4)}, 0, api.ErrOrder},
		{65, []api.DayNode{split(1, 1, 2), split(3, 2, 1), poor}, 1, api.ErrOrder},
		{65, []api.DayNode{split(1, 1, 2), split(3, 2, 0), poor}, 1, api.ErrOrder},
		// A node comes first, then its branches in their order, however they are numbered.
		{30, []api.DayNode{split(1, 1, 9), poor}, 0, api.ErrMissing},
		{30, []api.DayNode{split(1, 2, 1), leaf(5), poor}, 2, api.ErrProof},
		{35, []api.DayNode{split(1, 2, 1), leaf(5), poor}, 1, api.ErrKind},
		{30, []api.DayNode{split(1, 1, 2), poor, leaf(5)}, 1, api.ErrProof},
		{65, []api.DayNode{split(1, 1, 2), split(3, 3, 3), hard, leaf(5)}, 3, api.ErrKind},
		// Nodes that are not reached are not looked at, and of a leaf only its kind is.
		{65, []api.DayNode{{Kind: api.DayPoor, Wish: 99, Next: []int{-1, 0}}, leaf(7), split(-1)}, 0, api.OK},
	} {
		n, e := day.CheckTree(x, test.value, test.tree)
		expect(t, "CheckTree of "+flat(test.tree)[:min(300, len(flat(test.tree)))]+" for "+flat(test.value), n, e, test.number, test.e)
	}
	n, e := day.CheckTree(api.DayTask{}, 0, []api.DayNode{poor})
	expect(t, "CheckTree of a day with nothing", n, e, 0, api.OK)
}

// chain is a tree that decides wishes in an order, each one in all ways alike, and has one leaf.
func chain(x api.DayTask, order []int, leaf api.DayNode) []api.DayNode {
	var tree []api.DayNode
	for i, w := range order {
		tree = append(tree, split(w, slices.Repeat([]int{i + 1}, len(x.Wishes[w].Slots)+1)...))
	}
	return append(tree, leaf)
}

// P9.3, P1: branches may share nodes; each of them is looked at with what is decided above it.
func TestSharedNodes(t *testing.T) {
	x := named(append(slices.Repeat([]int{0}, 20), slices.Repeat([]int{1}, 10)...)...)
	_, v, _, _ := day.BestPlan(x)
	for range 2 {
		tree := chain(x, newChance(9).Perm(30), poor)
		n, e := day.CheckTree(x, v, tree)
		expect(t, "CheckTree", n, e, 0, api.OK)
		// Of all ways only the last one is worth more.
		n, e = day.CheckTree(x, v-1, tree)
		expect(t, "CheckTree for 1 less", n, e, 30, api.ErrProof)
		x.Slots[0].Seats = 9
	}
	var order []int
	for w := range x.Wishes {
		order = append(order, w)
	}
	tree := append(chain(x, order, poor), hard)
	tree[29].Next[1] = 31
	n, e := day.CheckTree(x, v, tree)
	expect(t, "CheckTree with a leaf that holds where all is granted", n, e, 31, api.ErrProof)
}

// P9.3: leaves that hold, and leaves that just do not, by themselves.
func TestLeaves(t *testing.T) {
	guides := with(func(t *api.DayTask) {
		t.Slots[0].Seats, t.Rules.Gas, t.Divers[1].Buddy = 9, 1000, -1
		t.Wishes = []api.DayWish{wish(1, 1, 1, 0), wish(2, 1, 1, 0), wish(0, 1, 1, 0), wish(0, 1, 1, 1, 0), wish(0, 1, 1, 1), wish(1, 1, 1)}
	})
	pair := with(func(t *api.DayTask) {
		t.Rules.Novice = 0
		t.Wishes = []api.DayWish{wish(1, 1, 1, 1, 0), wish(0, 1, 1, 1), wish(0, 1, 1, 0), wish(0, 1, 1)}
	})
	for _, test := range []struct {
		t     api.DayTask
		on    [][2]int // what is decided: wishes, and their slots
		kind  int
		value int
		holds bool
	}{
		// Bob alone is not without a guide while ann may come; two novices need two of her wishes.
		{guides, [][2]int{{0, 0}}, api.DaySoft, 0, false},
		{guides, [][2]int{{0, 0}, {1, 0}}, api.DaySoft, 0, false},
		{guides, [][2]int{{0, 0}, {1, 0}, {2, -1}}, api.DaySoft, 0, true},
		{guides, [][2]int{{0, 0}, {1, 0}, {3, 1}}, api.DaySoft, 0, true},
		{guides, [][2]int{{0, 0}, {1, 0}, {2, 0}}, api.DaySoft, 0, false},
		{guides, [][2]int{{0, 0}, {1, 0}, {2, 0}, {3, 1}}, api.DaySoft, 0, true},
		{guides, [][2]int{{0, 0}, {2, -1}}, api.DaySoft, 0, false},
		{guides, [][2]int{{0, 0}, {2, -1}, {3, 1}}, api.DaySoft, 0, true},
		{guides, [][2]int{{0, 0}, {2, -1}, {3, -1}}, api.DaySoft, 0, true},
		{guides, [][2]int{{0, 0}, {2, -1}, {3, 0}}, api.DaySoft, 0, false},
		{guides, [][2]int{{0, -1}, {1, -1}, {2, -1}, {3, -1}, {4, -1}}, api.DaySoft, 0, false},
		// A diver twice in a slot is one guide there, not two.
		{guides, [][2]int{{0, 0}, {1, 0}, {2, 0}, {3, 0}}, api.DaySoft, 0, true},
		{guides, [][2]int{{0, 0}, {1, 0}, {2, 0}, {3, 0}}, api.DayHard, 0, true},
		{guides, [][2]int{{0, 0}, {1, 0}, {2, -1}}, api.DayHard, 0, false},
		{guides, [][2]int{{2, 0}, {3, 0}}, api.DayHard, 0, true},
		{guides, [][2]int{{2, 0}, {4, 1}}, api.DayHard, 0, false},
		// A wish without slots still counts, till it is decided.
		{guides, nil, api.DayPoor, 6, true},
		{guides, nil, api.DayPoor, 5, false},
		{guides, [][2]int{{5, -1}}, api.DayPoor, 5, true},
		{guides, [][2]int{{5, -1}, {0, 0}}, api.DayPoor, 4, false},
		{guides, [][2]int{{5, -1}, {0, -1}}, api.DayPoor, 4, true},
		{guides, [][2]int{{5, -1}, {0, -1}}, api.DayPoor, 3, false},
		// A buddy may come by any wish that names the slot.
		{pair, [][2]int{{0, 0}}, api.DaySoft, 0, false},
		{pair, [][2]int{{0, 0}, {2, -1}}, api.DaySoft, 0, true},
		{pair, [][2]int{{0, 0}, {1, 1}}, api.DaySoft, 0, false},
		{pair, [][2]int{{0, 0}, {2, 0}}, api.DaySoft, 0, false},
		{pair, [][2]int{{0, 1}, {1, -1}}, api.DaySoft, 0, true},
		{pair, [][2]int{{0, 1}, {1, 1}, {2, -1}}, api.DaySoft, 0, false},
		{pair, [][2]int{{0, -1}, {1, -1}, {2, -1}, {3, -1}}, api.DaySoft, 0, false},
		{pair, [][2]int{{0, 0}, {2, -1}}, api.DayHard, 0, false},
	} {
		checkLeaf(t, test.t, test.on, leaf(test.kind), test.value, test.holds)
	}
}

// checkLeaf checks whether a leaf holds: it stands in a tree below some splits, of which all other branches are poor. So these
// hold for the greatest value, for which leaves of the other kinds are looked at.
func checkLeaf(t *testing.T, x api.DayTask, on [][2]int, leaf api.DayNode, value int, holds bool) {
	t.Helper()
	if leaf.Kind != api.DayPoor {
		value = 30000
	}
	var tree []api.DayNode
	d := decided{}
	for i, y := range on {
		branches := append([]int{-1}, x.Wishes[y[0]].Slots...)
		next := slices.Repeat([]int{len(on) + 1}, len(branches))
		next[slices.Index(branches, y[1])] = i + 1
		tree = append(tree, split(y[0], next...))
		d[y[0]] = y[1]
	}
	n, e := day.CheckTree(x, value, append(tree, leaf, poor))
	if held := e == api.OK || n != len(on); held != holds || modelOf(x).holds(d, leaf.Kind, value) != holds {
		t.Errorf("%+v with %v: the leaf %+v for %d holds: %v, want %v", x, on, leaf, value, held, holds)
	}
}

// P9.3: trees by chance, right and wrong ones, by the definitions.
func TestTreesByChance(t *testing.T) {
	seen := map[api.Errno]int{}
	someDays(10, 500, 6, func(c chance, x api.DayTask) {
		m := modelOf(x)
		_, v, tree, _ := day.BestPlan(x)
		for range 20 {
			y, value := c.tree(x, tree), max(0, v+c.from(-3, 3))
			want := m.below(decided{}, value, y, 0)
			seen[want.e]++
			n, e := day.CheckTree(x, value, y)
			expect(t, "CheckTree of "+flat(x)+flat(y)+flat(value), n, e, want.number, want.e)
			if e == api.OK && v > value {
				t.Errorf("the tree %v proves %d for %v, but there is %d", y, value, x, v)
			}
		}
	})
	for _, e := range []api.Errno{api.OK, api.ErrKind, api.ErrMissing, api.ErrExists, api.ErrShape, api.ErrOrder, api.ErrProof} {
		if seen[e] < 100 {
			t.Errorf("there were only %d trees with the error %d", seen[e], e)
		}
	}
}

// tree returns a tree: one that is near a right one, or any one that grows as trees do.
func (c chance) tree(x api.DayTask, near []api.DayNode) []api.DayNode {
	var tree []api.DayNode
	for _, node := range near {
		node.Next = slices.Clone(node.Next)
		tree = append(tree, node)
	}
	if c.Intn(2) == 0 {
		tree = nil
		c.grow(x, &tree, c.Perm(len(x.Wishes)))
	}
	for range c.Intn(3) {
		i := c.Intn(len(tree))
		node := &tree[i]
		switch c.Intn(5) {
		case 0:
			node.Kind = c.from(-1, 4)
		case 1:
			node.Wish = c.from(-1, len(x.Wishes))
		case 2:
			node.Next = append(node.Next, c.from(i, len(tree)))
		case 3:
			if len(node.Next) > 0 {
				node.Next[c.Intn(len(node.Next))] = c.from(i, len(tree))
			}
		case 4:
			if len(node.Next) > 0 {
				node.Next[c.Intn(len(node.Next))] = c.from(-1, i)
			}
		}
	}
	return tree
}

// grow adds a node and its branches, with any kind of leaves.
func (c chance) grow(x api.DayTask, tree *[]api.DayNode, wishes []int) int {
	number := len(*tree)
	if len(wishes) == 0 || c.Intn(4) == 0 {
		*tree = append(*tree, leaf(c.from(1, 3)))
		return number
	}
	*tree = append(*tree, split(wishes[0]))
	var next []int
	for range len(x.Wishes[wishes[0]].Slots) + 1 {
		next = append(next, c.grow(x, tree, wishes[1:]))
	}
	(*tree)[number].Next = next
	return number
}
