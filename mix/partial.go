package mix

import (
	"shotline/api"
	"shotline/check"
	"shotline/gas"
)

// PartialFill returns how much oxygen, helium and top gas must be added to a content, so that it is what is wanted.
func PartialFill(begin api.MixContent, w api.MixWanted) ([3]api.Range, api.Errno) {
	e := check.First(checkContent(begin), gas.CheckGas(w.Gas), gas.CheckGas(w.Top), check.Range(w.Total, sumOf(begin), api.MaxAmount))
	if e != api.OK {
		return [3]api.Range{}, e
	}
	missing, top := missingOf(begin, w), sharesOf(w.Top)
	if top[nitrogen] == 0 {
		return [3]api.Range{}, api.ErrZero
	}
	// All nitrogen comes with the top gas, which so brings top[i] / top[nitrogen] times as much of the others.
	add := [3]ratio{
		{missing[oxygen]*top[nitrogen] - missing[nitrogen]*top[oxygen], whole * top[nitrogen]},
		{missing[helium]*top[nitrogen] - missing[nitrogen]*top[helium], whole * top[nitrogen]},
		{missing[nitrogen], top[nitrogen]},
	}
	var added [3]api.Range
	for i, amount := range add {
		if amount.num < 0 {
			return [3]api.Range{}, api.ErrNone
		}
		added[i] = amount.rounded()
	}
	return added, api.OK
}

// Matches tells whether the oxygen and the helium of a content are within some thousandths of those of a gas.
func Matches(c api.MixContent, g api.Gas, tolerance int) (bool, api.Errno) {
	if e := check.First(checkContent(c), gas.CheckGas(g)); e != api.OK {
		return false, e
	}
	if sumOf(c) == 0 {
		return false, api.ErrZero
	}
	if e := check.Range(tolerance, 0, whole); e != api.OK {
		return false, e
	}
	off := missingOf(c, api.MixWanted{Gas: g, Total: sumOf(c)})
	most := tolerance * sumOf(c)
	return check.Within(off[oxygen], -most, most) && check.Within(off[helium], -most, most), api.OK
}

// missingOf returns how much of each gas what is wanted has more than a content, in thousandths of an amount.
func missingOf(c api.MixContent, w api.MixWanted) parts {
	missing := sharesOf(w.Gas)
	for i, amount := range partsOf(c) {
		missing[i] = w.Total*missing[i] - whole*amount
	}
	return missing
}
