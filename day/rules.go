package day

import "shotline/api"

// rule is a rule of plans: its error, and what tells whether a board breaks it, and what is named then.
type rule struct {
	e      api.Errno
	broken func(b board) (int, bool)
}

// hardRules is how many of the rules are hard: the first ones.
const hardRules = 5

// rules returns the rules of plans in their order.
func rules() [7]rule {
	return [...]rule{
		{api.ErrKind, firstWish(board.isTooHard)},
		{api.ErrDouble, firstWish(board.isTwice)},
		{api.ErrBusy, firstWish(board.isBusy)},
		{api.ErrFull, firstSlot(board.isFull)},
		{api.ErrStock, board.lacksGas},
		{api.ErrOpen, firstWish(board.isAlone)},
		{api.ErrGap, firstSlot(board.isUnguided)},
	}
}

// breaks returns the error of the first rule that a board breaks, and what is named.
func (b board) breaks() (int, api.Errno) {
	l := rules()
	return b.firstOf(l[:])
}

// breaksHard returns that of the first hard rule.
func (b board) breaksHard() (int, api.Errno) {
	l := rules()
	return b.firstOf(l[:hardRules])
}

// breaksSoft returns that of the first rule that is not hard. What may yet heal a rule does not break it.
func (b board) breaksSoft() (int, api.Errno) {
	l := rules()
	return b.firstOf(l[hardRules:])
}

func (b board) firstOf(l []rule) (int, api.Errno) {
	for _, r := range l {
		if number, is := r.broken(b); is {
			return number, r.e
		}
	}
	return 0, api.OK
}

// firstWish returns a function that names the first wish that is granted and for which a condition holds.
func firstWish(is func(b board, wish int) bool) func(board) (int, bool) {
	return func(b board) (int, bool) {
		for wish := range b.Wishes {
			if b.isGranted(wish) && is(b, wish) {
				return wish, true
			}
		}
		return 0, false
	}
}

// firstSlot returns a function that names the first slot for which a condition holds.
func firstSlot(is func(b board, slot int) bool) func(board) (int, bool) {
	return func(b board) (int, bool) {
		for slot := range b.Slots {
			if is(b, slot) {
				return slot, true
			}
		}
		return 0, false
	}
}

// isTooHard tells whether the slot of a wish asks for a greater level than that of its diver.
func (b board) isTooHard(wish int) bool {
	return b.Slots[b.plan[wish]].Level > b.diverOf(wish).Level
}

// isTwice tells whether an earlier wish of the same diver is granted in the same slot.
func (b board) isTwice(wish int) bool {
	return b.follows(wish, func(slot int) bool { return slot == b.plan[wish] })
}

// isBusy tells whether an earlier wish of the same diver is granted in a slot that is too near.
func (b board) isBusy(wish int) bool {
	at := b.Slots[b.plan[wish]]
	return b.follows(wish, func(slot int) bool {
		other := b.Slots[slot]
		return b.isTooEarly(at, other) || b.isTooEarly(other, at)
	})
}

// follows tells whether an earlier wish of the same diver is granted in a slot for which a condition holds.
func (b board) follows(wish int, is func(slot int) bool) bool {
	for earlier, w := range b.Wishes[:wish] {
		if b.isGranted(earlier) && w.Diver == b.Wishes[wish].Diver && is(b.plan[earlier]) {
			return true
		}
	}
	return false
}

// isTooEarly tells whether a slot that does not begin ahead of another one begins too early behind it.
func (b board) isTooEarly(later, first api.DaySlot) bool {
	return later.From >= first.From && later.From-first.To < b.Rules.Gap
}

func (b board) isFull(slot int) bool {
	return b.seatsLeft(slot) < 0
}

func (b board) lacksGas() (int, bool) {
	return 0, b.gasLeft() < 0
}

// isAlone tells whether the diver of a wish has a buddy who is not in its slot, and cannot come.
func (b board) isAlone(wish int) bool {
	buddy, slot := b.diverOf(wish).Buddy, b.plan[wish]
	if buddy == noBuddy || b.isIn(buddy, slot) {
		return false
	}
	return b.comers(slot, func(diver int) bool { return diver == buddy }) == 0
}

// isUnguided tells whether a slot has more novices in it than its guides may lead, with those who may yet come.
func (b board) isUnguided(slot int) bool {
	guides := len(b.inSlot(slot, b.isGuide)) + b.comers(slot, b.isGuide)
	return len(b.inSlot(slot, b.isNovice)) > b.Rules.Ratio*guides
}

func (b board) isNovice(diver int) bool {
	return b.Divers[diver].Level < b.Rules.Novice
}

func (b board) isGuide(diver int) bool {
	return b.Divers[diver].Level >= b.Rules.Guide
}
