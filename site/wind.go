package site

import (
	"sort"

	"shotline/api"
	"shotline/check"
)

// CheckWinds returns ErrShape for no winds, ErrLarge for too many, then the first error of one.
func CheckWinds(l []api.Wind) api.Errno {
	if len(l) == 0 {
		return api.ErrShape
	}
	if len(l) > api.MaxWinds {
		return api.ErrLarge
	}
	for i, w := range l {
		if e := check.First(checkMinute(w.From), check.Range(w.Sector, 0, api.WindSectors-1), checkForce(w.Force)); e != api.OK {
			return e
		}
		if i > 0 && w.From <= l[i-1].From {
			return api.ErrOrder
		}
	}
	return api.OK
}

// WindAt returns the wind of a forecast at a minute.
func WindAt(l []api.Wind, minute int) (api.Wind, api.Errno) {
	if e := check.First(CheckWinds(l), checkMinute(minute)); e != api.OK {
		return api.Wind{}, e
	}
	return windAt(l, minute)
}

// CalmWindows returns the windows of a span in which a site is calm.
func CalmWindows(s api.SiteShelter, l []api.Wind, span api.Range) ([]api.Range, api.Errno) {
	if e := check.First(check.Each(s.Most[:], checkForce), CheckWinds(l), checkSpan(span)); e != api.OK {
		return nil, e
	}
	return windowsIn(span, func(minute int) bool {
		w, e := windAt(l, minute)
		return e == api.OK && w.Force <= s.Most[w.Sector]
	})
}

func checkForce(force int) api.Errno {
	return check.Range(force, 0, api.MaxWindForce)
}

// windAt returns the wind of a right forecast at a minute, or ErrEarly.
func windAt(l []api.Wind, minute int) (api.Wind, api.Errno) {
	begun := sort.Search(len(l), func(i int) bool { return l[i].From > minute })
	if begun == 0 {
		return api.Wind{}, api.ErrEarly
	}
	return l[begun-1], api.OK
}
