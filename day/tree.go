package day

import (
	"cmp"
	"slices"

	"shotline/api"
	"shotline/check"
)

// mostValue is the greatest value that a tree may prove: that of all wishes of any day.
const mostValue = api.MaxWishes * api.MaxDayValue

// proof is a tree, and the value for which its leaves are to hold.
type proof struct {
	value int
	tree  []api.DayNode
}

// CheckTree accepts a tree whose leaves all hold for a value; beside another error it returns the number of the node.
func CheckTree(t api.DayTask, value int, tree []api.DayNode) (int, api.Errno) {
	if e := check.First(checkWays(t), check.Range(value, 0, mostValue)); e != api.OK {
		return 0, e
	}
	if !check.Within(len(tree), 1, api.MaxDayNodes) {
		return 0, api.ErrShape
	}
	p := proof{value, tree}
	return p.check(emptyBoard(t), 0)
}

// leafKinds returns what makes a leaf hold for a value at a board, by its kind.
func leafKinds() map[int]func(b board, value int) bool {
	return map[int]func(b board, value int) bool{
		api.DayHard: func(b board, _ int) bool {
			_, e := b.breaksHard()
			return e != api.OK
		},
		api.DaySoft: func(b board, _ int) bool {
			_, e := b.breaksSoft()
			return e != api.OK
		},
		api.DayPoor: func(b board, value int) bool {
			return b.hope() <= value
		},
	}
}

// check returns the error of a node at a board, or of what is below it, and the number of the node whose error it is. No wish
// is decided twice on the way to a leaf, so these ways are no more than those of the day, even where branches share nodes.
func (p *proof) check(b board, number int) (int, api.Errno) {
	node := p.tree[number]
	if node.Kind != api.DaySplit {
		if e := p.checkLeaf(b, node.Kind); e != api.OK {
			return number, e
		}
		return 0, api.OK
	}
	if e := p.checkSplit(b, number); e != api.OK {
		return number, e
	}
	for i, slot := range decisions(b.Wishes[node.Wish]) {
		if wrong, e := p.check(b.with(node.Wish, slot), node.Next[i]); e != api.OK {
			return wrong, e
		}
	}
	return 0, api.OK
}

func (p *proof) checkLeaf(b board, kind int) api.Errno {
	holds, ok := leafKinds()[kind]
	switch {
	case !ok:
		return api.ErrKind
	case !holds(b, p.value):
		return api.ErrProof
	}
	return api.OK
}

// checkSplit returns the error of a split alone.
func (p *proof) checkSplit(b board, number int) api.Errno {
	node := p.tree[number]
	if e := checkWish(b.DayTask, node.Wish); e != api.OK {
		return e
	}
	if !b.isUndecided(node.Wish) {
		return api.ErrExists
	}
	if len(node.Next) != len(decisions(b.Wishes[node.Wish])) {
		return api.ErrShape
	}
	return check.Each(node.Next, func(next int) api.Errno {
		e := checkNumber(next, len(p.tree))
		if e == api.OK && next <= number {
			return api.ErrOrder
		}
		return e
	})
}

// provedFor returns a tree whose leaves hold for the greatest value of a right plan of a day.
func provedFor(t api.DayTask, value int) []api.DayNode {
	wishes := make([]int, len(t.Wishes))
	for wish := range wishes {
		wishes[wish] = wish
	}
	// What is split on first is split on least often, so it has the fewest branches: then there are at most 1024 leaves, and
	// less splits, if no wish has more than one slot, otherwise at most 1500 leaves and 1000 splits; and a split for each wish
	// without slots. These are less than MaxDayNodes.
	slices.SortStableFunc(wishes, func(v, w int) int {
		return cmp.Compare(len(t.Wishes[v].Slots), len(t.Wishes[w].Slots))
	})
	p := proof{value: value}
	p.grow(emptyBoard(t), wishes)
	return p.tree
}

// grow adds the node of a board to the tree, then all that is below it, and returns its number. It splits on wishes in their
// order; these are all that are not decided.
func (p *proof) grow(b board, wishes []int) int {
	number := len(p.tree)
	p.tree = append(p.tree, api.DayNode{Kind: p.kindFor(b)})
	if p.tree[number].Kind != api.DaySplit {
		return number
	}
	wish := wishes[0]
	var next []int
	for _, slot := range decisions(b.Wishes[wish]) {
		next = append(next, p.grow(b.with(wish, slot), wishes[1:]))
	}
	p.tree[number].Wish, p.tree[number].Next = wish, next
	return number
}

// kindFor returns a kind of leaves that holds at a board, or DaySplit if none does. Where all wishes are decided one does: the
// plan breaks a rule, or its value is not greater.
func (p *proof) kindFor(b board) int {
	kinds := leafKinds()
	for _, kind := range []int{api.DayPoor, api.DayHard, api.DaySoft} {
		if kinds[kind](b, p.value) {
			return kind
		}
	}
	return api.DaySplit
}
