package site

import (
	"slices"

	"shotline/api"
	"shotline/check"
)

// noWay stands in a chart for minutes where there is no direct way.
const noWay = -1

// trip is a way from one place to another one: its places, and how long it takes. Without places there is none.
type trip struct {
	places  []int
	minutes int
}

// CheckChart returns ErrLarge if there are too many places, then the first error of one, then that of the minutes.
func CheckChart(c api.SiteChart) api.Errno {
	if len(c.Places) > api.MaxPlaces {
		return api.ErrLarge
	}
	itself := func(name string) string { return name }
	right := func(string) api.Errno { return api.OK }
	if e := check.Named(c.Places, itself, right); e != api.OK {
		return e
	}
	isOther := func(row []int) bool { return len(row) != len(c.Places) }
	if len(c.Minutes) != len(c.Places) || slices.ContainsFunc(c.Minutes, isOther) {
		return api.ErrShape
	}
	return checkMinutes(c)
}

// Way returns a way with the least minutes, all its places, and the minutes.
func Way(c api.SiteChart, from, to int) ([]int, int, api.Errno) {
	if e := CheckChart(c); e != api.OK {
		return nil, 0, e
	}
	if e := check.First(checkPlace(c, from), checkPlace(c, to)); e != api.OK {
		return nil, 0, e
	}
	best := tripsFrom(c, from)[to]
	if best.places == nil {
		return nil, 0, api.ErrNone
	}
	return best.places, best.minutes, api.OK
}

// checkMinutes returns the first error of the minutes of a chart that has as many as it needs.
func checkMinutes(c api.SiteChart) api.Errno {
	for from, row := range c.Minutes {
		for to, minutes := range row {
			if e := check.Range(minutes, noWay, api.MaxWayMinutes); e != api.OK {
				return e
			}
			if from == to && minutes != 0 {
				return api.ErrForm
			}
		}
	}
	return api.OK
}

func checkPlace(c api.SiteChart, place int) api.Errno {
	if !check.Within(place, 0, len(c.Places)-1) {
		return api.ErrMissing
	}
	return api.OK
}

// tripsFrom returns a way with the least minutes to each place.
func tripsFrom(c api.SiteChart, from int) []trip {
	trips := make([]trip, len(c.Places))
	trips[from].places = []int{from}
	// A way has no place twice, so there is no more to find after as many rounds as there are places.
	for range c.Places {
		for by := range trips {
			goOn(trips, by, c.Minutes[by])
		}
	}
	return trips
}

// goOn takes the way to a place, and a direct way from there, wherever this is a first way, or takes less.
func goOn(trips []trip, by int, row []int) {
	if trips[by].places == nil {
		return
	}
	for to, minutes := range row {
		total := trips[by].minutes + minutes
		// A place that the way has already was reached in no more minutes, so it is not taken twice.
		if minutes != noWay && (trips[to].places == nil || total < trips[to].minutes) {
			trips[to] = trip{append(slices.Clone(trips[by].places), to), total}
		}
	}
}
