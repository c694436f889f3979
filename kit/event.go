package kit

import (
	"slices"

	"shotline/api"
	"shotline/check"
)

// CheckEvents returns the error of events, with the number of the event whose error it is.
func CheckEvents(k api.KitSetup, l []api.KitEvent) (int, api.Errno) {
	_, number, e := behind(k, l)
	return number, e
}

// AddEvent returns the events with one more behind them.
func AddEvent(k api.KitSetup, l []api.KitEvent, x api.KitEvent) ([]api.KitEvent, api.Errno) {
	if _, e := aheadOf(k, l, x); e != api.OK {
		return nil, e
	}
	return append(slices.Clone(l), x), api.OK
}

// History returns the numbers of all events of an item.
func History(k api.KitSetup, l []api.KitEvent, item string) ([]int, api.Errno) {
	if _, _, e := thingBehind(k, l, item); e != api.OK {
		return nil, e
	}
	var numbers []int
	for number, x := range l {
		if x.Item == item || x.From == item {
			numbers = append(numbers, number)
		}
	}
	return numbers, api.OK
}

// behind returns the shop behind events, or the number of the event that is wrong.
func behind(k api.KitSetup, l []api.KitEvent) (*shop, int, api.Errno) {
	if e := CheckSetup(k); e != api.OK {
		return nil, 0, e
	}
	if len(l) > api.MaxKitEvents {
		return nil, 0, api.ErrLarge
	}
	s := open(k)
	for number, x := range l {
		if e := s.checkEvent(x); e != api.OK {
			return nil, number, e
		}
		s.happen(x)
	}
	return s, 0, api.OK
}

// aheadOf returns the shop behind events, if one more may happen there.
func aheadOf(k api.KitSetup, l []api.KitEvent, x api.KitEvent) (*shop, api.Errno) {
	s, _, e := behind(k, l)
	if e != api.OK {
		return nil, e
	}
	if len(l) >= api.MaxKitEvents {
		return nil, api.ErrLarge
	}
	return s, s.checkEvent(x)
}

// thingBehind returns the shop behind events, and its thing of a name.
func thingBehind(k api.KitSetup, l []api.KitEvent, name string) (*shop, *thing, api.Errno) {
	s, _, e := behind(k, l)
	if e != api.OK {
		return nil, nil, e
	}
	x, e := s.thing(name)
	return s, x, e
}

// checkEvent returns the error of an event alone, then why it is not possible now.
func (s *shop) checkEvent(x api.KitEvent) api.Errno {
	if e := s.checkAlone(x); e != api.OK {
		return e
	}
	return s.checkPossible(x)
}

func (s *shop) checkAlone(x api.KitEvent) api.Errno {
	if !check.Within(x.Kind, api.KitCheck, api.KitAir) {
		return api.ErrKind
	}
	item, e := s.thing(x.Item)
	if e := check.First(checkDay(x.Day), e, checkForm(x)); e != api.OK {
		return e
	}
	switch x.Kind {
	case api.KitCheck:
		_, e = s.rule(x.Rule, item)
	case api.KitFill:
		e = s.checkFill(x.From, item)
	case api.KitEmpty:
		e = item.checkKind(api.KitCylinder)
	case api.KitAir:
		e = item.checkKind(api.KitCompressor)
	}
	return e
}

// checkForm returns ErrForm if an event tells what its kind has no place for.
func checkForm(x api.KitEvent) api.Errno {
	isCheck, isFill, isAir := x.Kind == api.KitCheck, x.Kind == api.KitFill, x.Kind == api.KitAir
	if x.Rule != "" && !isCheck || x.From != "" && !isFill || x.Passed && !isCheck && !isAir {
		return api.ErrForm
	}
	return api.OK
}

// checkFill returns the error of a fill alone, of a thing from that of a name.
func (s *shop) checkFill(name string, item *thing) api.Errno {
	from, e := s.thing(name)
	switch {
	case e != api.OK:
		return e
	case item.Kind != api.KitCylinder, from.Kind != api.KitCylinder && from.Kind != api.KitCompressor:
		return api.ErrUnit
	case from == item:
		return api.ErrClash
	}
	return api.OK
}

// checkPossible returns why an event that is right alone is not possible now.
func (s *shop) checkPossible(x api.KitEvent) api.Errno {
	if x.Day < s.day {
		return api.ErrOrder
	}
	things := find(s.things, func(y *thing) bool { return y.Name == x.Item || y.Name == x.From })
	if len(find(things, func(y *thing) bool { return x.Day < y.Bought })) > 0 {
		return api.ErrEarly
	}
	isUse := x.Kind == api.KitUse || x.Kind == api.KitFill
	if isUse && len(find(things, func(y *thing) bool { return !s.mayBeUsed(y, x.Day) })) > 0 {
		return api.ErrState
	}
	return api.OK
}

// happen lets an event happen that is possible.
func (s *shop) happen(x api.KitEvent) {
	s.day = x.Day
	item, _ := s.thing(x.Item)
	switch x.Kind {
	case api.KitCheck:
		item.checks[x.Rule] = lastCheck{day: x.Day, passed: x.Passed}
	case api.KitUse:
		item.use()
	case api.KitFill:
		from, _ := s.thing(x.From)
		item.fillFrom(from)
	case api.KitEmpty:
		clear(item.batches)
	case api.KitAir:
		s.analyse(item, x.Passed)
	}
}
