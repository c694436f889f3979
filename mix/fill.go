package mix

import (
	"slices"

	"shotline/api"
	"shotline/check"
	"shotline/gas"
)

// room is vessels behind some fills, with what came from outside and what was vented, and the day of the last fill.
type room struct {
	vessels []held
	sums    api.MixSums
	day     int
}

// CheckFills returns the error of fills, with the number of the fill whose error it is.
func CheckFills(v []api.MixVessel, l []api.MixFill) (int, api.Errno) {
	_, number, e := behind(v, l)
	return number, e
}

// AddFill returns the fills with one more behind them.
func AddFill(v []api.MixVessel, l []api.MixFill, x api.MixFill) ([]api.MixFill, api.Errno) {
	r, _, e := behind(v, l)
	if e != api.OK {
		return nil, e
	}
	if len(l) >= api.MaxFills {
		return nil, api.ErrLarge
	}
	if e := r.add(x); e != api.OK {
		return nil, e
	}
	return append(slices.Clone(l), x), api.OK
}

// behind returns the vessels behind fills, or the number of the fill that is wrong.
func behind(v []api.MixVessel, l []api.MixFill) (room, int, api.Errno) {
	if e := CheckVessels(v); e != api.OK {
		return room{}, 0, e
	}
	if len(l) > api.MaxFills {
		return room{}, 0, api.ErrLarge
	}
	var r room
	for _, vessel := range v {
		r.vessels = append(r.vessels, held{MixVessel: vessel})
	}
	for number, f := range l {
		if e := r.add(f); e != api.OK {
			return room{}, number, e
		}
	}
	return r, 0, api.OK
}

// add adds a fill, if it is right alone, and possible.
func (r *room) add(f api.MixFill) api.Errno {
	if e := checkAlone(f); e != api.OK {
		return e
	}
	from, to := r.vessel(f.From), r.vessel(f.To)
	if e := r.checkPossible(f, from, to); e != api.OK {
		return e
	}
	moved := broughtIn(f)
	if from != nil {
		moved = shareOf(from.content, f.Amount)
		from.content = without(from.content, moved)
	} else {
		r.sums.In = plus(r.sums.In, moved)
	}
	if to != nil {
		to.content = plus(to.content, moved)
	} else {
		r.sums.Vented = plus(r.sums.Vented, moved)
	}
	r.day = f.Day
	return api.OK
}

// checkAlone returns the error of a fill alone.
func checkAlone(f api.MixFill) api.Errno {
	comesIn, moves, isVent := f.Kind == api.MixIn, f.Kind == api.MixMove, f.Kind == api.MixVent
	if !comesIn && !moves && !isVent {
		return api.ErrKind
	}
	if e := check.First(check.Range(f.Day, 0, api.MaxDay), check.Range(f.Amount, 1, api.MaxAmount)); e != api.OK {
		return e
	}
	switch {
	case gas.CheckGas(f.Gas) != api.OK, !comesIn && f.Gas != api.Gas{}:
		return api.ErrRange
	case comesIn && f.From != "", isVent && f.To != "", moves && f.From == f.To, f.Pump && !moves:
		return api.ErrForm
	}
	return api.OK
}

// checkPossible returns the error of a fill that is right alone, between vessels, of which each is nil if there is none.
func (r *room) checkPossible(f api.MixFill, from, to *held) api.Errno {
	switch {
	case from == nil && f.Kind != api.MixIn, to == nil && f.Kind != api.MixVent:
		return api.ErrMissing
	case f.Day < r.day:
		return api.ErrOrder
	case from != nil && sumOf(from.content) < f.Amount:
		return api.ErrStock
	case to != nil && to.pressureWith(f.Amount).compare(ratio{to.Most, 1}) > 0:
		return api.ErrFull
	case f.Kind == api.MixMove && !f.Pump && from.pressureWith(-f.Amount).compare(to.pressureWith(f.Amount)) < 0:
		return api.ErrState
	}
	return api.OK
}

// broughtIn returns what a fill brings from outside.
func broughtIn(f api.MixFill) api.MixContent {
	c := api.MixContent{Oxygen: f.Amount * f.Gas.Oxygen / whole, Helium: f.Amount * f.Gas.Helium / whole}
	c.Nitrogen = f.Amount - sumOf(c)
	return c
}
