package ascent

import (
	"shotline/api"
	"shotline/check"
	"shotline/tissue"
)

// CheckSchedule accepts a schedule whose legs are all proved, up to the surface, and returns its seconds; beside an error
// the number of the leg that has it.
func CheckSchedule(x api.AscentTask, s api.AscentSchedule) (int, api.Errno) {
	if e := check.First(CheckTask(x), checkAlone(s)); e != api.OK {
		return 0, e
	}
	at := workedOut(x)
	for i, leg := range s.Legs {
		if e := check.First(at.checkLeg(leg), check.Range(s.Fines[i], 0, at.Fine)); e != api.OK {
			return i, e
		}
		if answer, _ := tissue.Kept(at.tissueTask(leg), s.Fines[i]); answer != api.AnswerYes {
			return i, api.ErrProof
		}
		at = at.behind(leg)
	}
	if at.Depth != 0 {
		return 0, api.ErrOpen
	}
	return secondsOf(s), api.OK
}

// Following returns the task behind each leg of a schedule, whether or not the legs are proved.
func Following(x api.AscentTask, s api.AscentSchedule) ([]api.AscentTask, api.Errno) {
	if e := check.First(CheckTask(x), checkAlone(s)); e != api.OK {
		return nil, e
	}
	var l []api.AscentTask
	at := workedOut(x)
	for _, leg := range s.Legs {
		if e := at.checkLeg(leg); e != api.OK {
			return nil, e
		}
		at = at.behind(leg)
		l = append(l, copyOf(at.AscentTask))
	}
	return l, api.OK
}

// SecondsOf returns the seconds of all legs of a schedule.
func SecondsOf(s api.AscentSchedule) (int, api.Errno) {
	if e := checkAlone(s); e != api.OK {
		return 0, e
	}
	return secondsOf(s), api.OK
}

// StopsOf returns the stops of a schedule.
func StopsOf(x api.AscentTask, s api.AscentSchedule) ([]api.AscentStop, api.Errno) {
	if e := check.First(CheckTask(x), checkAlone(s)); e != api.OK {
		return nil, e
	}
	var stops []api.AscentStop
	depth, isStop := x.Depth, false
	for _, leg := range s.Legs {
		stays := leg.Depth == depth
		switch {
		case stays && isStop:
			stops[len(stops)-1].Seconds += leg.Seconds
		case stays:
			stops = append(stops, api.AscentStop{Depth: depth, Seconds: leg.Seconds})
		}
		depth, isStop = leg.Depth, stays
	}
	return stops, api.OK
}

// checkAlone returns the error of a schedule alone, whatever its task is.
func checkAlone(s api.AscentSchedule) api.Errno {
	if len(s.Legs) > api.MaxAscentLegs {
		return api.ErrLarge
	}
	if len(s.Fines) != len(s.Legs) {
		return api.ErrShape
	}
	for i, leg := range s.Legs {
		e := check.First(
			check.Range(leg.Seconds, 1, api.MaxHalf),
			checkDepth(leg.Depth),
			check.Range(leg.Gas, 0, api.MaxGases),
			check.Range(s.Fines[i], 0, api.MaxRefine),
		)
		if e != api.OK {
			return e
		}
	}
	return api.OK
}

func secondsOf(s api.AscentSchedule) int {
	seconds := 0
	for _, leg := range s.Legs {
		seconds += leg.Seconds
	}
	return seconds
}
