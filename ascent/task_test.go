package ascent_test

import (
	"math"
	"slices"
	"testing"

	"shotline/api"
	"shotline/ascent"
	"shotline/tissue"
)

// P4.2: right tasks.
func TestRightTasks(t *testing.T) {
	ends := sample(0)
	ends.Surface, ends.Depth = 400, 0
	ends.Gases = slices.Repeat([]api.AscentGas{{Gas: helium}}, 8)
	far := sample(100000000)
	far.Surface, far.Depth = 1100, 30000
	for _, x := range []api.AscentTask{sample(2400000), ends, far} {
		if e := ascent.CheckTask(x); e != api.OK {
			t.Errorf("%+v: error %d", x, e)
		}
	}
	for _, r := range rightRules() {
		x := sample(0)
		x.Rules = r
		if e := ascent.CheckTask(x); e != api.OK {
			t.Errorf("%+v: error %d", x, e)
		}
	}
}

// P4.2: wrong tasks, in each function that takes one, ahead of all other errors.
func TestWrongTasks(t *testing.T) {
	all := wrongTasks()
	for _, surface := range []int{399, 1101, math.MinInt, math.MaxInt} {
		x := sample(0)
		x.Surface = surface
		all = append(all, wrongTask{x, api.ErrRange})
	}
	for _, depth := range []int{-1, 30001, math.MinInt, math.MaxInt} {
		x := sample(0)
		x.Depth = depth
		all = append(all, wrongTask{x, api.ErrRange})
		x = sample(0)
		x.Gases = append(x.Gases, api.AscentGas{Gas: air, Deepest: depth}, api.AscentGas{Gas: fullGas})
		all = append(all, wrongTask{x, api.ErrRange})
	}
	for _, r := range wrongRules() {
		x := sample(0)
		x.Rules = r
		all = append(all, wrongTask{x, api.ErrRange})
	}
	for _, w := range all {
		if e := ascent.CheckTask(w.x); e != w.want {
			t.Errorf("%+v: error %d, want %d", w.x, e, w.want)
		}
		everyWrong(t, w.x, w.want)
	}
}

// everyWrong calls each function that takes a task, with other arguments that are wrong as well.
func everyWrong(t *testing.T, x api.AscentTask, want api.Errno) {
	t.Helper()
	many := api.AscentSchedule{Legs: make([]api.DiveLeg, 401)}
	n, e := ascent.GasFor(x, -1)
	refuse(t, "GasFor", n, e, want)
	task, e := ascent.TaskOf(x, api.DiveLeg{Gas: 9})
	refuse(t, "TaskOf", task, e, want)
	y, e := ascent.Moved(x, api.DiveLeg{Gas: 9})
	refuse(t, "Moved", y, e, want)
	n, e = ascent.Direct(x)
	refuse(t, "Direct", n, e, want)
	s, e := ascent.Generate(x)
	refuse(t, "Generate", s, e, want)
	n, e = ascent.CheckSchedule(x, many)
	refuse(t, "CheckSchedule", n, e, want)
	l, e := ascent.Following(x, many)
	refuse(t, "Following", l, e, want)
	stops, e := ascent.StopsOf(x, many)
	refuse(t, "StopsOf", stops, e, want)
	n, e = ascent.NoStopSeconds(x)
	refuse(t, "NoStopSeconds", n, e, want)
	y, e = ascent.Begun(x, api.DivePlan{})
	refuse(t, "Begun", y, e, want)
	y, e = ascent.Rested(x, -1)
	refuse(t, "Rested", y, e, want)
	y, e = ascent.Changed(x, api.AscentChange{Kind: 3})
	refuse(t, "Changed", y, e, want)
	seconds, e := ascent.Variants(x, make([]api.AscentChange, 9))
	refuse(t, "Variants", seconds, e, want)
}

// P4.2: the gas for a depth.
func TestGasFor(t *testing.T) {
	x := sample(740230)
	x.Gases = []api.AscentGas{{Gas: tx1845, Deepest: 6000}, {Gas: nx50, Deepest: 700}, {Gas: air, Deepest: 3000}, {Gas: api.Gas{Oxygen: 500, Helium: 10}, Deepest: 800},
		{Gas: oxygen, Deepest: 100}, {Gas: api.Gas{Oxygen: 210, Helium: 300}, Deepest: 3000}, {Gas: helium, Deepest: 7000}, {Gas: helium, Deepest: 7000}}
	for depth, want := range map[int]int{0: 4, 100: 4, 101: 1, 700: 1, 701: 3, 800: 3, 801: 2, 3000: 2, 3001: 0, 6000: 0, 6001: 6, 7000: 6} {
		g, e := ascent.GasFor(x, depth)
		expect(t, flat(depth), g, e, want, api.OK)
	}
	for depth, want := range map[int]api.Errno{7001: api.ErrGap, 30000: api.ErrGap, -1: api.ErrRange, 30001: api.ErrRange, math.MinInt: api.ErrRange, math.MaxInt: api.ErrRange} {
		g, e := ascent.GasFor(x, depth)
		refuse(t, flat(depth), g, e, want)
	}
	someTasks(300, func(c chance, x api.AscentTask) {
		depth := c.from(0, 5000)
		want, wanted := gasFor(x, depth), api.OK
		if want < 0 {
			want, wanted = 0, api.ErrGap
		}
		g, e := ascent.GasFor(x, depth)
		expect(t, flat(x), g, e, want, wanted)
	})
}

// P4.2: the tissue task of a leg, and the task behind it.
func TestLegs(t *testing.T) {
	x := sample(2400000)
	x.Rules.Low, x.Rules.High, x.Rules.Anchor = 300, 800, 2000
	y, e := ascent.TaskOf(x, api.DiveLeg{Seconds: 61, Depth: 500})
	expect(t, "a rise", y, e, api.TissueTask{Table: x.Table, Loads: x.Loads, Leg: api.TissueLeg{From: 2000, To: 1500, Seconds: 61, Gas: air}, Factor: 550}, api.OK)
	y, e = ascent.TaskOf(x, api.DiveLeg{Seconds: 100000, Depth: 1000})
	expect(t, "a stay", y, e, api.TissueTask{Table: x.Table, Loads: x.Loads, Leg: api.TissueLeg{From: 2000, To: 2000, Seconds: 100000, Gas: air}, Factor: 550}, api.OK)
	x.Depth = 0
	y, e = ascent.TaskOf(x, api.DiveLeg{Seconds: 1})
	expect(t, "a stay at the surface", y, e, api.TissueTask{Table: x.Table, Loads: x.Loads, Leg: api.TissueLeg{From: 1000, To: 1000, Seconds: 1, Gas: air}, Factor: 800}, api.OK)

	x = sample(2400000)
	z, e := ascent.Moved(x, api.DiveLeg{Seconds: 60, Depth: 500})
	x.Depth, x.Loads = 500, z.Loads
	expect(t, "Moved", z, e, x, api.OK)
	if n := z.Loads[0].Nitrogen; n.Lo < 2315000 || n.Hi > 2342000 || z.Loads[0].Helium != exactly(0) {
		t.Errorf("Moved: loads %v", z.Loads)
	}
	count := map[api.Errno]int{}
	someTasks(3000, func(c chance, x api.AscentTask) {
		leg := c.leg(x)
		e := legError(x, leg)
		count[e]++
		legCase(t, x, leg, e)
	})
	for _, e := range []api.Errno{api.OK, api.ErrRange, api.ErrKind, api.ErrOrder, api.ErrBreak} {
		if count[e] < 10 {
			t.Errorf("%d legs have the error %d", count[e], e)
		}
	}
}

// legCase checks TaskOf and Moved of a leg.
func legCase(t *testing.T, x api.AscentTask, leg api.DiveLeg, want api.Errno) {
	t.Helper()
	y, e := ascent.TaskOf(x, leg)
	z, e2 := ascent.Moved(x, leg)
	if want != api.OK {
		refuse(t, flat(leg), y, e, want)
		refuse(t, flat(leg), z, e2, want)
		return
	}
	expect(t, flat(leg), y, e, tissueTask(x, leg), want)
	expect(t, flat(leg), z, e2, behind(x, leg), want)
	if e := tissue.CheckTask(y); e != api.OK {
		t.Errorf("%+v: error %d", y, e)
	}
}

// P4.2: errors of legs, in their order.
func TestWrongLegs(t *testing.T) {
	x := sample(740230)
	x.Gases = append(x.Gases, api.AscentGas{Gas: nx50, Deepest: 999}, api.AscentGas{Gas: nx50, Deepest: 1000})
	tests := map[api.DiveLeg]api.Errno{
		{Seconds: 0, Depth: 1001, Gas: 3}:                            api.ErrRange,
		{Seconds: 100001, Depth: 1001, Gas: 3}:                       api.ErrRange,
		{Seconds: 1, Depth: -1, Gas: 3}:                              api.ErrRange,
		{Seconds: 1, Depth: 30001, Gas: 3}:                           api.ErrRange,
		{Seconds: math.MaxInt, Depth: math.MaxInt, Gas: math.MaxInt}: api.ErrRange,
		{Seconds: math.MinInt, Depth: math.MinInt, Gas: math.MinInt}: api.ErrRange,
		{Seconds: 1, Depth: 1001, Gas: 3}:                            api.ErrMissing,
		{Seconds: 1, Depth: 30000, Gas: -1}:                          api.ErrMissing,
		{Seconds: 1, Depth: 1000, Gas: math.MaxInt}:                  api.ErrMissing,
		{Seconds: 1, Depth: 1000, Gas: math.MinInt}:                  api.ErrMissing,
		{Seconds: 1, Depth: 1001, Gas: 1}:                            api.ErrKind,
		{Seconds: 1, Depth: 500, Gas: 1}:                             api.ErrKind,
		{Seconds: 1, Depth: 1001, Gas: 2}:                            api.ErrOrder,
		{Seconds: 100000, Depth: 30000}:                              api.ErrOrder,
		{Seconds: 1, Depth: 991}:                                     api.ErrBreak,
		{Seconds: 1, Depth: 992}:                                     api.OK,
		{Seconds: 59, Depth: 500, Gas: 2}:                            api.ErrBreak,
		{Seconds: 60, Depth: 499}:                                    api.ErrBreak,
		{Seconds: 60, Depth: 500}:                                    api.OK,
		{Seconds: 119}:                                               api.ErrBreak,
		{Seconds: 120, Gas: 2}:                                       api.OK,
		{Seconds: 1, Depth: 1000, Gas: 2}:                            api.OK,
		{Seconds: 100000, Depth: 1000}:                               api.OK,
	}
	for leg, want := range tests {
		legCase(t, x, leg, want)
		l, e := ascent.Following(x, one(leg))
		if outOfRange := leg.Gas < 0 || leg.Gas > 8; outOfRange {
			want = api.ErrRange
		}
		if e != want {
			t.Errorf("Following(%+v): error %d, want %d", leg, e, want)
		}
		zeroBeside(t, flat(leg), l, e)
	}
}
