package ascent

import (
	"shotline/api"
	"shotline/check"
	"shotline/tissue"
)

// Begun returns the task at the end of a plan that begins with the loads of a task at the surface.
func Begun(x api.AscentTask, p api.DivePlan) (api.AscentTask, api.Errno) {
	if e := checkAtSurface(x); e != api.OK {
		return api.AscentTask{}, e
	}
	if p.Surface != x.Surface {
		return api.AscentTask{}, api.ErrClash
	}
	legs, e := tissue.LegsOf(p)
	if e != api.OK {
		return api.AscentTask{}, e
	}
	loads, e := tissue.Followed(x.Table, x.Loads, legs, x.Rules.Fine)
	if e != api.OK {
		return api.AscentTask{}, e
	}
	y := copyOf(x)
	for i, leg := range p.Legs {
		y.Depth, y.Loads = leg.Depth, loads[i]
	}
	return y, api.OK
}

// Rested returns the task behind a rest at the surface.
func Rested(x api.AscentTask, seconds int) (api.AscentTask, api.Errno) {
	if e := check.First(checkAtSurface(x), check.Range(seconds, 0, api.MaxSecond)); e != api.OK {
		return api.AscentTask{}, e
	}
	y := copyOf(x)
	y.Loads, _ = tissue.Rested(x.Table, x.Loads, x.Surface, seconds)
	return y, api.OK
}

// checkAtSurface returns the error of a task, ErrState if it is at a depth.
func checkAtSurface(x api.AscentTask) api.Errno {
	if e := CheckTask(x); e != api.OK {
		return e
	}
	if x.Depth != 0 {
		return api.ErrState
	}
	return api.OK
}
