package ascent_test

import (
	"fmt"
	"math"
	"math/big"
	"math/rand"
	"reflect"
	"slices"
	"testing"

	"shotline/api"
	"shotline/ascent"
	"shotline/tissue"
)

// The tests use the exported functions alone. What they expect is found in the words of the definitions, with functions of
// package tissue, which has tests of its own.

var (
	air    = api.Gas{Oxygen: 210}
	oxygen = api.Gas{Oxygen: 1000}
	helium = api.Gas{Helium: 1000}
	nx50   = api.Gas{Oxygen: 500}
	tx1845 = api.Gas{Oxygen: 180, Helium: 450}

	// Gases with one error each.
	wideGas = api.Gas{Oxygen: 1001}
	fullGas = api.Gas{Oxygen: 600, Helium: 401}

	extremes = []int{math.MinInt, -1, 0, 1, 6, 7, 8, 9, 29, 30, 399, 400, 1000, 1001, 1100, 1101, 3000, 3001, 3600, 3601, 6000, 6001, 30000, 30001,
		100000, 100001, 1000000, 1000001, 100000000, 100000001, math.MaxInt}
)

// sample is the task of the examples, with a load of nitrogen.
func sample(load int) api.AscentTask {
	return api.AscentTask{
		Table:   []api.Compartment{{Nitrogen: 600, Helium: 600, Base: 500, Slope: 1500}},
		Loads:   nitrogen(load),
		Surface: 1000, Depth: 1000,
		Gases: []api.AscentGas{{Gas: air, Deepest: 30000}},
		Rules: api.AscentRules{Speed: 500, Grid: 500, Step: 600, Low: 1000, High: 1000, Anchor: 1000, Fine: 1},
	}
}

// sampleSchedule is the schedule of the examples, of the load 2400000.
func sampleSchedule() api.AscentSchedule {
	return api.AscentSchedule{Legs: []api.DiveLeg{{Seconds: 60, Depth: 500}, {Seconds: 600, Depth: 500}, {Seconds: 60}}, Fines: []int{0, 0, 0}}
}

// nitrogen is a load of nitrogen alone, as that of a table of one compartment.
func nitrogen(n int) []api.TissueLoad {
	return []api.TissueLoad{{Nitrogen: exactly(n)}}
}

func exactly(n int) api.Range { return api.Range{Lo: n, Hi: n} }

// one is a schedule of one leg, with the fineness 0.
func one(leg api.DiveLeg) api.AscentSchedule {
	return api.AscentSchedule{Legs: []api.DiveLeg{leg}, Fines: []int{0}}
}

// upTo is the schedule of the first legs of another one.
func upTo(s api.AscentSchedule, legs int) api.AscentSchedule {
	return api.AscentSchedule{Legs: s.Legs[:legs], Fines: s.Fines[:legs]}
}

// flat is a value in which a nil list and an empty one are the same.
func flat(x any) string { return fmt.Sprintf("%+v", x) }

func expect(t *testing.T, what string, got any, e api.Errno, want any, wanted api.Errno) {
	t.Helper()
	if e != wanted || flat(got) != flat(want) || reflect.TypeOf(got) != reflect.TypeOf(want) {
		t.Errorf("%s: %+v, error %d; want %+v, error %d", what, got, e, want, wanted)
	}
}

// refuse checks that there is this error, beside a zero value.
func refuse[T any](t *testing.T, what string, got T, e, wanted api.Errno) {
	t.Helper()
	var zero T
	expect(t, what, got, e, zero, wanted)
}

// zeroBeside checks that a result beside an error is its zero value.
func zeroBeside[T any](t *testing.T, what string, got T, e api.Errno) {
	t.Helper()
	if e != api.OK {
		refuse(t, what, got, e, e)
	}
}

// factorOf returns the factor at a depth, by a fraction.
func factorOf(r api.AscentRules, depth int) int {
	if depth >= r.Anchor {
		return r.Low
	}
	x := big.NewRat(int64((r.High-r.Low)*depth), int64(r.Anchor))
	x.Sub(big.NewRat(int64(r.High), 1), x)
	return int(new(big.Int).Div(x.Num(), x.Denom()).Int64())
}

// secondsUp returns the seconds of a rise: the first ones that are enough.
func secondsUp(r api.AscentRules, from, to int) int {
	seconds := 0
	for seconds*r.Speed < (from-to)*60 {
		seconds++
	}
	return seconds
}

// stopAbove returns the next stop above a depth: the first multiple of the grid on the way up.
func stopAbove(r api.AscentRules, depth int) int {
	depth--
	for depth%r.Grid != 0 {
		depth--
	}
	return depth
}

// gasFor returns the number of the gas for a depth, -1 if there is none: of each share of oxygen, from all of it down.
func gasFor(x api.AscentTask, depth int) int {
	for share := 1000; share >= 0; share-- {
		for i, g := range x.Gases {
			if g.Gas.Oxygen == share && g.Deepest >= depth {
				return i
			}
		}
	}
	return -1
}

// rise is the rise of a task to a depth.
func rise(x api.AscentTask, depth int) api.DiveLeg {
	return api.DiveLeg{Seconds: secondsUp(x.Rules, x.Depth, depth), Depth: depth, Gas: gasFor(x, x.Depth)}
}

// stay is the stay of a task.
func stay(x api.AscentTask) api.DiveLeg {
	return api.DiveLeg{Seconds: x.Rules.Step, Depth: x.Depth, Gas: gasFor(x, x.Depth)}
}

// tissueTask is the tissue task of a leg.
func tissueTask(x api.AscentTask, leg api.DiveLeg) api.TissueTask {
	return api.TissueTask{
		Table:  x.Table,
		Loads:  x.Loads,
		Leg:    api.TissueLeg{From: x.Surface + x.Depth, To: x.Surface + leg.Depth, Seconds: leg.Seconds, Gas: x.Gases[leg.Gas].Gas},
		Factor: factorOf(x.Rules, x.Depth),
	}
}

// behind is the task behind a leg.
func behind(x api.AscentTask, leg api.DiveLeg) api.AscentTask {
	l, e := tissue.Loaded(x.Table, x.Loads, tissueTask(x, leg).Leg, x.Rules.Fine)
	if e != api.OK {
		panic(fmt.Sprintf("%+v, %+v: loads with the error %d", x, leg, e))
	}
	x.Loads, x.Depth = l, leg.Depth
	return x
}

// proof returns the first fineness with which a leg is proved, -1 if there is none up to Fine.
func proof(x api.AscentTask, leg api.DiveLeg) int {
	for fine := range x.Rules.Fine + 1 {
		switch k, _ := tissue.Kept(tissueTask(x, leg), fine); k {
		case api.AnswerYes:
			return fine
		case api.AnswerNo:
			return -1
		}
	}
	return -1
}

// scheduleOf returns the legs of the schedule of a task, up to what ends it, and this.
func scheduleOf(x api.AscentTask) (api.AscentSchedule, api.Errno) {
	var s api.AscentSchedule
	stays := map[int]int{} // of each depth
	add := func(leg api.DiveLeg, fine int) {
		s.Legs, s.Fines = append(s.Legs, leg), append(s.Fines, fine)
		x = behind(x, leg)
	}
	for x.Depth > 0 {
		if len(s.Legs) == 400 {
			return s, api.ErrLarge
		}
		if gasFor(x, x.Depth) < 0 {
			return s, api.ErrGap
		}
		up, here := rise(x, stopAbove(x.Rules, x.Depth)), stay(x)
		if fine := proof(x, up); fine >= 0 {
			add(up, fine)
			continue
		}
		if stays[x.Depth] == 60 {
			return s, api.ErrNone
		}
		fine := proof(x, here)
		if fine < 0 {
			return s, api.ErrBreak
		}
		stays[x.Depth]++
		add(here, fine)
	}
	return s, api.OK
}

// sumOf returns the seconds of legs.
func sumOf(legs []api.DiveLeg) int {
	sum := 0
	for _, leg := range legs {
		sum += leg.Seconds
	}
	return sum
}

// straight returns the answer of the way straight up, and its error.
func straight(x api.AscentTask) (int, api.Errno) {
	if x.Depth == 0 {
		k, _ := tissue.KeptAt(x.Table, x.Loads, [2]int{x.Surface, x.Rules.High})
		return k, api.OK
	}
	if gasFor(x, x.Depth) < 0 {
		return 0, api.ErrGap
	}
	k, _, _ := tissue.Decided(tissueTask(x, rise(x, 0)), x.Rules.Fine)
	return k, api.OK
}

// noStop returns the seconds without a stop, and the error.
func noStop(x api.AscentTask) (int, api.Errno) {
	k, e := straight(x)
	if e != api.OK {
		return 0, e
	}
	stays := -1
	for k == api.AnswerYes && stays < 60 {
		stays++
		if proof(x, stay(x)) < 0 {
			break
		}
		x = behind(x, stay(x))
		k, _ = straight(x)
	}
	if stays < 0 {
		return 0, api.ErrNone
	}
	return stays * x.Rules.Step, api.OK
}

// chance makes tasks.
type chance struct{ *rand.Rand }

func (c chance) from(least, most int) int { return least + c.Intn(most-least+1) }

func (c chance) rules() api.AscentRules {
	r := api.AscentRules{
		Speed: c.from(30, 1<<c.from(8, 12)), Grid: c.from(100, 1200), Step: c.from(1, 1<<c.from(4, 11)),
		Low: c.Intn(1001), High: c.Intn(1001), Anchor: c.from(1, 4000), Fine: c.from(0, 3),
	}
	if r.Low > r.High {
		r.Low, r.High = r.High, r.Low
	}
	return r
}

func (c chance) gases() []api.AscentGas {
	g := api.Gas{Oxygen: c.Intn(1001)}
	g.Helium = c.Intn(1001 - g.Oxygen)
	var l []api.AscentGas
	for range c.from(1, 4) {
		l = append(l, api.AscentGas{Gas: []api.Gas{air, oxygen, helium, tx1845, nx50, g}[c.Intn(6)], Deepest: c.from(0, 4000)})
	}
	if c.Intn(8) > 0 {
		l[c.Intn(len(l))].Deepest = 30000
	}
	return l
}

// task makes a task whose loads are mostly near its limits.
func (c chance) task() api.AscentTask {
	x := api.AscentTask{Surface: c.from(400, 1100), Depth: c.from(1, 4000), Gases: c.gases(), Rules: c.rules()}
	if c.Intn(10) == 0 {
		x.Depth = 0
	}
	for range c.from(1, 3) {
		half := c.from(1, 1<<c.from(4, 14))
		x.Table = append(x.Table, api.Compartment{Nitrogen: half, Helium: c.from(1, half), Base: c.from(0, 1500), Slope: c.from(1000, 2000)})
		x.Loads = append(x.Loads, api.TissueLoad{Nitrogen: c.load(1000 * (x.Surface + x.Depth)), Helium: c.load(1 << c.from(1, 19))})
	}
	return x
}

func (c chance) load(about int) api.Range {
	lo := about/3 + c.Intn(about)
	return api.Range{Lo: lo, Hi: lo + c.Intn(2)*c.Intn(1000)}
}

// leg makes a leg, which is mostly right.
func (c chance) leg(x api.AscentTask) api.DiveLeg {
	leg := rise(x, c.from(0, x.Depth))
	if c.Intn(3) == 0 {
		leg.Depth = x.Depth
	}
	leg.Seconds = max(c.Intn(2), leg.Seconds+c.from(-1, 2)*c.Intn(30))
	leg.Gas = c.Intn(len(x.Gases))
	if c.Intn(8) == 0 {
		leg.Depth += c.from(-2, 2)
	}
	return leg
}

// schedule makes a schedule, whose legs are mostly right.
func (c chance) schedule(x api.AscentTask) api.AscentSchedule {
	var s api.AscentSchedule
	for range c.Intn(5) {
		leg := c.leg(x)
		s.Legs, s.Fines = append(s.Legs, leg), append(s.Fines, c.from(0, 3))
		if legError(x, leg) != api.OK {
			break
		}
		x = behind(x, leg)
	}
	return s
}

// legError returns the error of a leg, in the words of the definition.
func legError(x api.AscentTask, leg api.DiveLeg) api.Errno {
	for _, rule := range []struct {
		broken func() bool
		e      api.Errno
	}{
		{func() bool { return leg.Seconds < 1 || leg.Seconds > 100000 || leg.Depth < 0 || leg.Depth > 30000 }, api.ErrRange},
		{func() bool { return leg.Gas < 0 || leg.Gas >= len(x.Gases) }, api.ErrMissing},
		{func() bool { return x.Depth > x.Gases[leg.Gas].Deepest }, api.ErrKind},
		{func() bool { return leg.Depth > x.Depth }, api.ErrOrder},
		{func() bool { return leg.Seconds < secondsUp(x.Rules, x.Depth, leg.Depth) }, api.ErrBreak},
	} {
		if rule.broken() {
			return rule.e
		}
	}
	return api.OK
}

// someTasks calls f with tasks, which are the same ones each time.
func someTasks(n int, f func(c chance, x api.AscentTask)) {
	for i := range n {
		c := chance{rand.New(rand.NewSource(int64(i)))}
		f(c, c.task())
	}
}

// someSchedules calls f with tasks that have a schedule of some legs, and with this.
func someSchedules(t *testing.T, n int, f func(x api.AscentTask, s api.AscentSchedule)) {
	t.Helper()
	found := 0
	someTasks(n, func(_ chance, x api.AscentTask) {
		s, e := ascent.Generate(x)
		if e == api.OK && len(s.Legs) > 0 {
			found++
			f(x, s)
		}
	})
	if found < n/10 {
		t.Errorf("%d of %d tasks have a schedule", found, n)
	}
}

// wrongTasks are tasks with the error that comes first; each one has those of the ones before it as well.
func wrongTasks() []wrongTask {
	var l []wrongTask
	x := sample(740230)
	add := func(want api.Errno, change func(x *api.AscentTask)) {
		change(&x)
		y := x
		y.Gases, y.Loads, y.Table = slices.Clone(x.Gases), slices.Clone(x.Loads), slices.Clone(x.Table)
		l = append(l, wrongTask{y, want})
	}
	add(api.ErrOrder, func(x *api.AscentTask) { x.Rules.Low, x.Rules.High = 2, 1 })
	add(api.ErrRange, func(x *api.AscentTask) { x.Rules.Fine = 7 })
	add(api.ErrSum, func(x *api.AscentTask) {
		x.Gases = []api.AscentGas{{Gas: air}, {Gas: fullGas, Deepest: -1}, {Gas: wideGas}}
	})
	add(api.ErrRange, func(x *api.AscentTask) { x.Gases[0].Deepest = 30001 })
	add(api.ErrLarge, func(x *api.AscentTask) { x.Gases = slices.Repeat(x.Gases, 3) })
	add(api.ErrShape, func(x *api.AscentTask) { x.Gases = nil })
	add(api.ErrRange, func(x *api.AscentTask) { x.Depth = 30001 })
	add(api.ErrRange, func(x *api.AscentTask) { x.Depth = 0; x.Surface = 1101 })
	add(api.ErrOrder, func(x *api.AscentTask) { x.Loads[0].Helium = api.Range{Lo: 1} })
	add(api.ErrRange, func(x *api.AscentTask) { x.Loads[0].Nitrogen.Lo = -1 })
	add(api.ErrShape, func(x *api.AscentTask) { x.Loads = nil })
	add(api.ErrRange, func(x *api.AscentTask) { x.Table[0].Slope = 0 })
	add(api.ErrShape, func(x *api.AscentTask) { x.Table = nil })
	return l
}

type wrongTask struct {
	x    api.AscentTask
	want api.Errno
}
