package desk

import (
	"slices"

	"shotline/api"
	"shotline/check"
)

// keeper keeps a log, the facts of it that count, and the world behind them all.
type keeper struct {
	world
	log   []api.DeskEntry
	facts []counted
}

// counted is a fact that counts: its number, who made it and the text that counts, the word of the text, what it says, and
// the world ahead of it.
type counted struct {
	api.DeskEntry
	number int
	word   string
	fact   fact
	before *world
}

// keep returns the keeper of a log; or the error of the desk or of the log, with how many entries stand before the one that
// is refused.
func keep(h api.DiveDesk, log []api.DeskEntry) (keeper, int, api.Errno) {
	if e := CheckDesk(h); e != api.OK {
		return keeper{}, 0, e
	}
	if len(log) > api.MaxDeskLog {
		return keeper{}, 0, api.ErrLarge
	}
	k := keeper{world: world{DiveDesk: h}}
	for number, x := range log {
		after, e := k.enter(x)
		if e != api.OK {
			return keeper{}, number, e
		}
		k = after
	}
	return k, len(log), api.OK
}

// accept returns a keeper with one more entry, if there is room for it, and it is not refused.
func (k keeper) accept(x api.DeskEntry) (keeper, api.Errno) {
	if len(k.log) >= api.MaxDeskLog {
		return keeper{}, api.ErrFull
	}
	return k.enter(x)
}

// enter returns a keeper with one more entry, if it is not refused.
func (k keeper) enter(x api.DeskEntry) (keeper, api.Errno) {
	s, e := k.said(x)
	if e != api.OK {
		return keeper{}, e
	}
	after, e := k.following(s, x)
	after.log = with(k.log, x)
	return after, e
}

// following returns a keeper with what an entry says, but without the entry.
func (k keeper) following(s said, x api.DeskEntry) (keeper, api.Errno) {
	if s.word == fixWord {
		return k.fixed(s)
	}
	c, e := s.counted(len(k.log)+1, x)
	if e != api.OK {
		return keeper{}, e
	}
	return k.counting(c)
}

// counted returns the fact with a number that an entry says, or the error of the rest of its text.
func (s said) counted(number int, x api.DeskEntry) (counted, api.Errno) {
	f, e := s.fact()
	return counted{DeskEntry: x, number: number, word: s.word, fact: f}, e
}

// fixed returns a keeper in which another fact stands in the place of the one that a fix names.
func (k keeper) fixed(s said) (keeper, api.Errno) {
	number, text, e := s.fix()
	if e != api.OK {
		return keeper{}, e
	}
	place := k.placeOf(number)
	by := s.by.Name
	if place >= 0 {
		by = k.facts[place].By
	}
	x := api.DeskEntry{By: by, Text: text}
	now, e := k.said(x)
	if e != api.OK {
		return keeper{}, e
	}
	c, e := now.counted(number, x)
	switch {
	case e != api.OK:
		return keeper{}, e
	case !k.hasEntry(number):
		return keeper{}, api.ErrMissing
	case place < 0, k.facts[place].word != c.word:
		return keeper{}, api.ErrKind
	}
	return k.replaced(place, c)
}

// replaced returns a keeper with another fact in a place; the facts behind it are added to it anew.
func (k keeper) replaced(place int, c counted) (keeper, api.Errno) {
	after := keeper{world: *k.facts[place].before, facts: k.facts[:place]}
	for _, next := range slices.Concat([]counted{c}, k.facts[place+1:]) {
		var e api.Errno
		after, e = after.counting(next)
		if e != api.OK {
			return keeper{}, e
		}
	}
	return after, api.OK
}

// counting returns a keeper with one more fact that counts.
func (k keeper) counting(c counted) (keeper, api.Errno) {
	ahead := k.world
	c.before = &ahead
	after, e := c.fact.addTo(ahead)
	if e != api.OK {
		return keeper{}, e
	}
	k.world = after
	k.facts = with(k.facts, c)
	return k, api.OK
}

// hasEntry tells whether there is an entry with a number.
func (k keeper) hasEntry(number int) bool {
	return check.Within(number, 1, len(k.log))
}

// placeOf returns the place of the fact with a number among those that count, -1 if there is none.
func (k keeper) placeOf(number int) int {
	return slices.IndexFunc(k.facts, func(c counted) bool { return c.number == number })
}

// behind returns the world behind the fact in a place.
func (k keeper) behind(place int) world {
	if place+1 < len(k.facts) {
		return *k.facts[place+1].before
	}
	return k.world
}
