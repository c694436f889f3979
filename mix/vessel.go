package mix

import (
	"slices"

	"shotline/api"
	"shotline/check"
)

// held is a vessel with what is in it.
type held struct {
	api.MixVessel
	content api.MixContent
}

// CheckVessels returns the error of vessels.
func CheckVessels(l []api.MixVessel) api.Errno {
	if len(l) > api.MaxVessels {
		return api.ErrLarge
	}
	nameOf := func(v api.MixVessel) string { return v.Name }
	return check.Named(l, nameOf, func(v api.MixVessel) api.Errno {
		return check.First(check.Range(v.Volume, 1, api.MaxVolume), check.Range(v.Most, 1, api.MaxPressure))
	})
}

// Contents returns the content of each vessel.
func Contents(v []api.MixVessel, l []api.MixFill) ([]api.MixContent, api.Errno) {
	r, _, e := behind(v, l)
	if e != api.OK {
		return nil, e
	}
	var contents []api.MixContent
	for _, vessel := range r.vessels {
		contents = append(contents, vessel.content)
	}
	return contents, api.OK
}

// Sums returns what came from outside, and what was vented.
func Sums(v []api.MixVessel, l []api.MixFill) (api.MixSums, api.Errno) {
	r, _, e := behind(v, l)
	if e != api.OK {
		return api.MixSums{}, e
	}
	return r.sums, api.OK
}

// PressureOf returns the pressure of a vessel.
func PressureOf(v []api.MixVessel, l []api.MixFill, vessel string) (api.Range, api.Errno) {
	x, e := vesselBehind(v, l, vessel)
	if e != api.OK {
		return api.Range{}, e
	}
	return x.pressureWith(0).rounded(), api.OK
}

// MixtureOf returns the thousandths of oxygen and helium of what is in a vessel.
func MixtureOf(v []api.MixVessel, l []api.MixFill, vessel string) (api.MixTold, api.Errno) {
	x, e := vesselBehind(v, l, vessel)
	if e != api.OK {
		return api.MixTold{}, e
	}
	sum := sumOf(x.content)
	if sum == 0 {
		return api.MixTold{}, api.ErrZero
	}
	return api.MixTold{
		Oxygen: ratio{whole * x.content.Oxygen, sum}.rounded(),
		Helium: ratio{whole * x.content.Helium, sum}.rounded(),
	}, api.OK
}

// vesselBehind returns the vessel of a name behind right fills.
func vesselBehind(v []api.MixVessel, l []api.MixFill, name string) (held, api.Errno) {
	r, _, e := behind(v, l)
	if e != api.OK {
		return held{}, e
	}
	x := r.vessel(name)
	if x == nil {
		return held{}, api.ErrMissing
	}
	return *x, api.OK
}

// vessel returns the vessel of a name, or nil.
func (r room) vessel(name string) *held {
	i := slices.IndexFunc(r.vessels, func(x held) bool { return x.Name == name })
	if i < 0 {
		return nil
	}
	return &r.vessels[i]
}

// pressureWith returns the pressure of a vessel with so much more in it.
func (x held) pressureWith(more int) ratio {
	return ratio{whole * (sumOf(x.content) + more), x.Volume}
}
