package ascent

import (
	"shotline/api"
	"shotline/check"
)

// noSchedule stands for the seconds of a schedule where there is none.
const noSchedule = -1

// Changed returns a changed task: ErrKind if the change has none of the kinds.
func Changed(x api.AscentTask, c api.AscentChange) (api.AscentTask, api.Errno) {
	if e := CheckTask(x); e != api.OK {
		return api.AscentTask{}, e
	}
	switch c.Kind {
	case api.AscentLonger:
		return longer(x, c.Value)
	case api.AscentLost:
		return lost(x, c.Value)
	case api.AscentFactor:
		return withLow(x, c.Value)
	}
	return api.AscentTask{}, api.ErrKind
}

// Variants returns the seconds of the schedule of a task, then of each changed task; -1 where there is none.
func Variants(x api.AscentTask, l []api.AscentChange) ([]int, api.Errno) {
	if e := CheckTask(x); e != api.OK {
		return nil, e
	}
	if len(l) > api.MaxGases {
		return nil, api.ErrLarge
	}
	var seconds []int
	add := func(y api.AscentTask, e api.Errno) {
		seconds = append(seconds, secondsUp(y, e))
	}
	add(x, api.OK)
	for _, c := range l {
		add(Changed(x, c))
	}
	return seconds, api.OK
}

// longer returns the task behind some seconds at its depth.
func longer(x api.AscentTask, seconds int) (api.AscentTask, api.Errno) {
	if e := check.Range(seconds, 1, api.MaxHalf); e != api.OK {
		return api.AscentTask{}, e
	}
	at := workedOut(x)
	if at.gasFor == noGas {
		return api.AscentTask{}, api.ErrGap
	}
	return copyOf(at.behind(at.stay(seconds)).AscentTask), api.OK
}

// lost returns the task without the gas with a number.
func lost(x api.AscentTask, number int) (api.AscentTask, api.Errno) {
	if !check.Within(number, 0, len(x.Gases)-1) {
		return api.AscentTask{}, api.ErrMissing
	}
	if len(x.Gases) == 1 {
		return api.AscentTask{}, api.ErrShape
	}
	y := copyOf(x)
	y.Gases = make([]api.AscentGas, len(x.Gases)-1)
	copy(y.Gases, x.Gases[:number])
	copy(y.Gases[number:], x.Gases[number+1:])
	return y, api.OK
}

// withLow returns the task with another factor Low.
func withLow(x api.AscentTask, low int) (api.AscentTask, api.Errno) {
	y := copyOf(x)
	y.Rules.Low = low
	if e := CheckRules(y.Rules); e != api.OK {
		return api.AscentTask{}, e
	}
	return y, api.OK
}

// secondsUp returns the seconds of the schedule of a task that may have an error.
func secondsUp(x api.AscentTask, e api.Errno) int {
	if e != api.OK {
		return noSchedule
	}
	s, e := Generate(x)
	if e != api.OK {
		return noSchedule
	}
	return secondsOf(s)
}
