package ascent

import (
	"slices"

	"shotline/api"
	"shotline/check"
	"shotline/gas"
	"shotline/tissue"
)

// noGas is the number of the gas where there is none.
const noGas = -1

// task is a right task with its rules, the factor at its depth, and the number of the gas for it.
type task struct {
	api.AscentTask
	rules
	factor, gasFor int
}

// CheckTask returns the errors of the loads, of the pressure and the depth, of the gases and of the rules of a task.
func CheckTask(x api.AscentTask) api.Errno {
	return check.First(
		tissue.CheckLoads(x.Table, x.Loads),
		check.Range(x.Surface, api.LeastAir, api.MostAir),
		checkDepth(x.Depth),
		checkGases(x.Gases),
		CheckRules(x.Rules),
	)
}

// GasFor returns the number of the gas for a depth: ErrGap if there is none.
func GasFor(x api.AscentTask, depth int) (int, api.Errno) {
	if e := check.First(CheckTask(x), checkDepth(depth)); e != api.OK {
		return 0, e
	}
	number := richest(x.Gases, depth)
	if number == noGas {
		return 0, api.ErrGap
	}
	return number, api.OK
}

// TaskOf returns the tissue task of a leg.
func TaskOf(x api.AscentTask, leg api.DiveLeg) (api.TissueTask, api.Errno) {
	if e := CheckTask(x); e != api.OK {
		return api.TissueTask{}, e
	}
	at := workedOut(x)
	if e := at.checkLeg(leg); e != api.OK {
		return api.TissueTask{}, e
	}
	y := at.tissueTask(leg)
	y.Table, y.Loads = slices.Clone(y.Table), slices.Clone(y.Loads)
	return y, api.OK
}

// Moved returns the task behind a leg.
func Moved(x api.AscentTask, leg api.DiveLeg) (api.AscentTask, api.Errno) {
	if e := CheckTask(x); e != api.OK {
		return api.AscentTask{}, e
	}
	at := workedOut(x)
	if e := at.checkLeg(leg); e != api.OK {
		return api.AscentTask{}, e
	}
	return copyOf(at.behind(leg).AscentTask), api.OK
}

func checkGases(l []api.AscentGas) api.Errno {
	switch {
	case len(l) == 0:
		return api.ErrShape
	case len(l) > api.MaxGases:
		return api.ErrLarge
	}
	return check.Each(l, func(g api.AscentGas) api.Errno {
		return check.First(gas.CheckGas(g.Gas), checkDepth(g.Deepest))
	})
}

func mayBreathe(g api.AscentGas, depth int) bool {
	return depth <= g.Deepest
}

// richest returns the number of the gas with the most oxygen of those that may be breathed at a depth.
func richest(l []api.AscentGas, depth int) int {
	best := noGas
	for i, g := range l {
		if mayBreathe(g, depth) && (best == noGas || g.Gas.Oxygen > l[best].Gas.Oxygen) {
			best = i
		}
	}
	return best
}

// workedOut returns a right task with what is worked out of it. It shares the memory of the task.
func workedOut(x api.AscentTask) task {
	r := rules{x.Rules}
	return task{x, r, r.factorAt(x.Depth), richest(x.Gases, x.Depth)}
}

// copyOf returns a task that shares no memory with another one.
func copyOf(x api.AscentTask) api.AscentTask {
	x.Table, x.Loads, x.Gases = slices.Clone(x.Table), slices.Clone(x.Loads), slices.Clone(x.Gases)
	return x
}

// checkLeg returns the error of a leg.
func (x task) checkLeg(leg api.DiveLeg) api.Errno {
	switch {
	case !check.Within(leg.Seconds, 1, api.MaxHalf) || !isDepth(leg.Depth):
		return api.ErrRange
	case !check.Within(leg.Gas, 0, len(x.Gases)-1):
		return api.ErrMissing
	case !mayBreathe(x.Gases[leg.Gas], x.Depth):
		return api.ErrKind
	case leg.Depth > x.Depth:
		return api.ErrOrder
	case leg.Seconds < x.riseSeconds(x.Depth, leg.Depth):
		return api.ErrBreak
	}
	return api.OK
}

// riseTo returns the rise to a depth, on the gas for the task's depth.
func (x task) riseTo(depth int) api.DiveLeg {
	return api.DiveLeg{Seconds: x.riseSeconds(x.Depth, depth), Depth: depth, Gas: x.gasFor}
}

// stay returns the leg of some seconds at the task's depth, on the gas for it.
func (x task) stay(seconds int) api.DiveLeg {
	return api.DiveLeg{Seconds: seconds, Depth: x.Depth, Gas: x.gasFor}
}

// tissueTask returns the tissue task of a right leg. It shares the memory of the task.
func (x task) tissueTask(leg api.DiveLeg) api.TissueTask {
	return api.TissueTask{Table: x.Table, Loads: x.Loads, Leg: x.tissueLeg(leg), Factor: x.factor}
}

func (x task) tissueLeg(leg api.DiveLeg) api.TissueLeg {
	from, _ := gas.PressureAt(x.Surface, x.Depth)
	to, _ := gas.PressureAt(x.Surface, leg.Depth)
	return api.TissueLeg{From: from, To: to, Seconds: leg.Seconds, Gas: x.Gases[leg.Gas].Gas}
}

// behind returns the task behind a right leg. It shares the memory of the task but for the loads.
func (x task) behind(leg api.DiveLeg) task {
	y := x.AscentTask
	y.Loads, _ = tissue.Loaded(x.Table, x.Loads, x.tissueLeg(leg), x.Fine)
	y.Depth = leg.Depth
	return workedOut(y)
}
