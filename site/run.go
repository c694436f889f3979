package site

import (
	"slices"

	"shotline/api"
	"shotline/check"
)

// RunTimes returns for each stop of a run when it arrives, and when it leaves.
func RunTimes(c api.SiteChart, r api.BoatRun) ([][2]int, api.Errno) {
	if e := CheckChart(c); e != api.OK {
		return nil, e
	}
	if e := checkRun(c, r); e != api.OK {
		return nil, e
	}
	return timesOf(c, r), api.OK
}

// RunFits returns when a run leaves its last stop, if each stop has a window for it; beside an error the number of the stop
// whose error it is.
func RunFits(c api.SiteChart, r api.BoatRun, windows [][]api.Range) (int, api.Errno) {
	times, e := RunTimes(c, r)
	if e != api.OK {
		return 0, e
	}
	if len(windows) != len(times) {
		return 0, api.ErrShape
	}
	for stop, at := range times {
		if e := checkFit(windows[stop], at); e != api.OK {
			return stop, e
		}
	}
	return times[len(times)-1][1], api.OK
}

// checkRun returns the error of a run on a right chart.
func checkRun(c api.SiteChart, r api.BoatRun) api.Errno {
	switch {
	case len(r.Places) == 0 || len(r.Stay) != len(r.Places):
		return api.ErrShape
	case len(r.Places) > api.MaxRunStops:
		return api.ErrLarge
	}
	if e := checkMinute(r.Begin); e != api.OK {
		return e
	}
	for stop := range r.Places {
		if e := checkStop(c, r, stop); e != api.OK {
			return e
		}
	}
	return api.OK
}

// checkStop returns the error of a stop behind others that are right.
func checkStop(c api.SiteChart, r api.BoatRun, stop int) api.Errno {
	if e := check.First(checkPlace(c, r.Places[stop]), check.Range(r.Stay[stop], 0, api.MaxWayMinutes)); e != api.OK {
		return e
	}
	if stop > 0 && c.Minutes[r.Places[stop-1]][r.Places[stop]] == noWay {
		return api.ErrGap
	}
	return api.OK
}

// timesOf returns for each stop of a right run when it arrives, and when it leaves.
func timesOf(c api.SiteChart, r api.BoatRun) [][2]int {
	var times [][2]int
	arrives := r.Begin
	for stop, place := range r.Places {
		if stop > 0 {
			arrives = times[stop-1][1] + c.Minutes[r.Places[stop-1]][place]
		}
		times = append(times, [2]int{arrives, arrives + r.Stay[stop]})
	}
	return times
}

// checkFit returns the error of windows, then ErrClash if none of them contains all minutes from arriving to leaving.
func checkFit(l []api.Range, at [2]int) api.Errno {
	if e := CheckWindows(l); e != api.OK {
		return e
	}
	if !slices.ContainsFunc(l, func(w api.Range) bool { return w.Lo <= at[0] && at[1] <= w.Hi }) {
		return api.ErrClash
	}
	return api.OK
}
