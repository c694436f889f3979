package gas

import "shotline/api"

// sums is what the parts of a mixture come to: of oxygen, helium and nitrogen a thousandfold, and the amount of all.
type sums struct {
	parts  [3]int
	amount int
}

// CheckParts returns the error of the parts of a mixture.
func CheckParts(l []api.GasPart) api.Errno {
	if len(l) > api.MaxGasParts {
		return api.ErrLarge
	}
	empty := true
	for _, p := range l {
		if e := firstOf(CheckGas(p.Gas), checkAmount(p.Amount)); e != api.OK {
			return e
		}
		empty = empty && p.Amount == 0
	}
	if empty {
		return api.ErrZero
	}
	return api.OK
}

// Mixed returns the oxygen, the helium and the nitrogen of a mixture as fractions.
func Mixed(l []api.GasPart) ([3]api.Frac, api.Errno) {
	if e := CheckParts(l); e != api.OK {
		return [3]api.Frac{}, e
	}
	s := sumsOf(l)
	var mixed [3]api.Frac
	for i, part := range s.parts {
		mixed[i] = lowest(part, whole*s.amount)
		// A part is not more than all, so Num is not greater than Den.
		if mixed[i].Den > api.MaxPart {
			return [3]api.Frac{}, api.ErrLarge
		}
	}
	return mixed, api.OK
}

// Nearest returns the gas that is nearest to a mixture.
func Nearest(l []api.GasPart) (api.Gas, api.Errno) {
	if e := CheckParts(l); e != api.OK {
		return api.Gas{}, e
	}
	s := sumsOf(l)
	rounded := func(part int) int {
		return (2*part + s.amount) / (2 * s.amount)
	}
	oxygen := rounded(s.parts[0])
	// Two halves that are both rounded up would be more than there is.
	helium := min(rounded(s.parts[1]), whole-oxygen)
	return api.Gas{Oxygen: oxygen, Helium: helium}, api.OK
}

func sumsOf(l []api.GasPart) sums {
	var s sums
	for _, p := range l {
		s.amount += p.Amount
		for i, part := range partsOf(p.Gas) {
			s.parts[i] += p.Amount * part
		}
	}
	return s
}

// lowest returns num / den in lowest terms; num is at least 0, den above it.
func lowest(num, den int) api.Frac {
	a, b := num, den
	for b != 0 {
		a, b = b, a%b
	}
	return api.Frac{Num: num / a, Den: den / a}
}
