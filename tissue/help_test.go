package tissue_test

import (
	"fmt"
	"math"
	"math/big"
	"math/rand"
	"reflect"
	"testing"

	"shotline/api"
)

// The tests use the exported functions alone, and find what they expect in another way than the package: by exact
// fractions, in the words of the definitions, or by pressures that are tried one by one.

var (
	air    = api.Gas{Oxygen: 210}
	oxygen = api.Gas{Oxygen: 1000}
	helium = api.Gas{Helium: 1000}
	tx1845 = api.Gas{Oxygen: 180, Helium: 450}

	// Gases with one error each.
	wideGas = api.Gas{Oxygen: 1001}
	fullGas = api.Gas{Oxygen: 600, Helium: 401}

	extremes = []int{math.MinInt, -1, 0, 1, 6, 7, 24, 25, 399, 400, 1000, 1001, 1100, 1101, 10000, 10001, 30001, 31100, 31101,
		100000, 100001, 1000000, 1000001, 100000000, 100000001, math.MaxInt}
)

// first is the table of the examples.
func first() []api.Compartment {
	return []api.Compartment{{Nitrogen: 600, Helium: 240, Base: 500, Slope: 1500}}
}

// three is a table whose compartments differ in all.
func three() []api.Compartment {
	return []api.Compartment{
		{Nitrogen: 300, Helium: 110, Base: 1200, Slope: 1980},
		{Nitrogen: 1600, Helium: 600, Base: 600, Slope: 1400},
		{Nitrogen: 38000, Helium: 14000, Base: 230, Slope: 1040},
	}
}

// nitrogen is a load of nitrogen alone, as that of a table of one compartment.
func nitrogen(lo, hi int) []api.TissueLoad {
	return []api.TissueLoad{load(lo, hi, 0, 0)}
}

func load(ends ...int) api.TissueLoad {
	return api.TissueLoad{Nitrogen: api.Range{Lo: ends[0], Hi: ends[1]}, Helium: api.Range{Lo: ends[2], Hi: ends[3]}}
}

// stay is a leg on air at a pressure.
func stay(pressure, seconds int) api.TissueLeg {
	return api.TissueLeg{From: pressure, To: pressure, Seconds: seconds, Gas: air}
}

// down is the leg of the examples.
func down() api.TissueLeg {
	return api.TissueLeg{From: 1000, To: 4000, Seconds: 600, Gas: air}
}

func exactly(n int) api.Range { return api.Range{Lo: n, Hi: n} }

// flat is a value in which a nil list and an empty one are the same.
func flat(x any) string { return fmt.Sprintf("%+v", x) }

func expect(t *testing.T, what string, got any, e api.Errno, want any, wanted api.Errno) {
	t.Helper()
	if e != wanted || flat(got) != flat(want) || reflect.TypeOf(got) != reflect.TypeOf(want) {
		t.Errorf("%s: %+v, error %d; want %+v, error %d", what, got, e, want, wanted)
	}
}

// refuse checks that there is this error, beside a zero value.
func refuse[T any](t *testing.T, what string, got T, e, wanted api.Errno) {
	t.Helper()
	var zero T
	expect(t, what, got, e, zero, wanted)
}

// zeroBeside checks that a result beside an error is its zero value.
func zeroBeside[T any](t *testing.T, what string, got T, e api.Errno) {
	t.Helper()
	if e != api.OK {
		refuse(t, what, got, e, e)
	}
}

func rat(num, den int) *big.Rat { return big.NewRat(int64(num), int64(den)) }

// rounded returns a fraction rounded down and up.
func rounded(x *big.Rat) api.Range {
	down, rest := new(big.Int).DivMod(x.Num(), x.Denom(), new(big.Int))
	r := exactly(int(down.Int64()))
	if rest.Sign() != 0 {
		r.Hi++
	}
	return r
}

// times returns a product of fractions.
func times(l ...*big.Rat) *big.Rat {
	x := rat(1, 1)
	for _, y := range l {
		x.Mul(x, y)
	}
	return x
}

func plus(x, y *big.Rat) *big.Rat { return new(big.Rat).Add(x, y) }

// root returns the root of a level, in the words of the definition.
func root(level int) api.Range {
	if level == 0 {
		return exactly(500000000)
	}
	return rootBehind(root(level - 1))
}

// rootBehind returns the root of the level behind that of a root.
func rootBehind(r api.Range) api.Range {
	return api.Range{Lo: squareRoot(r.Lo).Lo, Hi: squareRoot(r.Hi).Hi}
}

// squareRoot returns the square root of 10^9 times a number, rounded down and rounded up.
func squareRoot(n int) api.Range {
	x := new(big.Int).Mul(big.NewInt(1000000000), big.NewInt(int64(n)))
	down := new(big.Int).Sqrt(x)
	r := exactly(int(down.Int64()))
	if new(big.Int).Mul(down, down).Cmp(x) != 0 {
		r.Hi++
	}
	return r
}

// decays are the decays that were asked for, which are slow to find by fractions.
var decays = map[[3]int]api.Range{}

// decay returns a decay.
func decay(seconds, half, level int) api.Range {
	key := [3]int{seconds, half, level}
	d, ok := decays[key]
	if !ok {
		d = workedOut(seconds, half, level)
		decays[key] = d
	}
	return d
}

// workedOut returns a decay, in the words of the definition.
func workedOut(seconds, half, level int) api.Range {
	lo, hi := 1000000000, 1000000000
	shrink := func(low, high *big.Rat) {
		lo, hi = rounded(times(rat(lo, 1), low)).Lo, rounded(times(rat(hi, 1), high)).Hi
	}
	r := seconds
	for ; r >= half && hi > 1; r -= half {
		shrink(rat(1, 2), rat(1, 2))
	}
	r %= half // more halvings leave 0 and 1
	this := root(0)
	for k := 1; k <= level; k++ {
		this = rootBehind(this)
		r *= 2
		if r >= half {
			r -= half
			shrink(rat(this.Lo, 1000000000), rat(this.Hi, 1000000000))
		}
	}
	if r != 0 {
		shrink(rat(this.Lo, 1000000000), rat(1, 1))
	}
	return api.Range{Lo: lo, Hi: hi}
}

// followed are the states of a leg as the definitions tell them.
type followed struct {
	second   int
	pressure *big.Rat
	loads    []api.TissueLoad
}

// follow returns the states at the marks of a leg.
func follow(table []api.Compartment, l []api.TissueLoad, x api.TissueLeg, fine int) []followed {
	if x.Seconds == 0 {
		return []followed{{0, rat(x.From, 1), l}}
	}
	n := int(math.Pow(2, float64(fine)))
	states := []followed{{0, rat(x.From, 1), l}}
	for j := 1; j <= n; j++ {
		before := states[j-1]
		second := rounded(rat(j*x.Seconds, n)).Lo
		pressure := plus(rat(x.From, 1), times(rat(x.To-x.From, 1), rat(second, x.Seconds)))
		pressures := span(before.pressure, pressure)
		loads := step(table, before.loads, pressures, second-before.second, x.Gas, 8+2*fine)
		states = append(states, followed{second, pressure, loads})
	}
	return states
}

// span returns the lesser one of two pressures, rounded down, and the greater one, rounded up.
func span(x, y *big.Rat) api.Range {
	if x.Cmp(y) > 0 {
		x, y = y, x
	}
	return api.Range{Lo: rounded(x).Lo, Hi: rounded(y).Hi}
}

// step returns the loads behind a step.
func step(table []api.Compartment, l []api.TissueLoad, p api.Range, seconds int, g api.Gas, level int) []api.TissueLoad {
	var behind []api.TissueLoad
	for i, c := range table {
		behind = append(behind, api.TissueLoad{
			Nitrogen: towards(l[i].Nitrogen, 1000-g.Oxygen-g.Helium, p, decay(seconds, c.Nitrogen, level)),
			Helium:   towards(l[i].Helium, g.Helium, p, decay(seconds, c.Helium, level)),
		})
	}
	return behind
}

// towards returns the load of one part behind a step.
func towards(l api.Range, part int, p, d api.Range) api.Range {
	left := func(load, breathed, decay int) *big.Rat {
		return plus(rat(breathed, 1), times(rat(load-breathed, 1), rat(decay, 1000000000)))
	}
	a, b := part*(p.Lo-63), part*(p.Hi-63)
	lo, hi := left(l.Lo, a, d.Lo), left(l.Hi, b, d.Hi)
	if l.Lo < a {
		lo = left(l.Lo, a, d.Hi)
	}
	if l.Hi < b {
		hi = left(l.Hi, b, d.Lo)
	}
	return api.Range{Lo: rounded(lo).Lo, Hi: rounded(hi).Hi}
}

// limit returns 1000 times the limit of a compartment at a pressure.
func limit(c api.Compartment, pressure, factor int) *big.Rat {
	p := rat(pressure, 1)
	above := plus(rat(c.Base, 1), times(rat(c.Slope, 1000), p))
	above.Sub(above, p)
	return times(rat(1000, 1), plus(p, times(rat(factor, 1000), above)))
}

// exceeds tells whether a load is more than the limit.
func exceeds(load int, c api.Compartment, pressure, factor int) bool {
	return rat(load, 1).Cmp(limit(c, pressure, factor)) > 0
}

// keeps returns whether loads keep the limits.
func keeps(table []api.Compartment, l []api.TissueLoad, pressure, factor int) int {
	answer := api.AnswerYes
	for i, c := range table {
		switch {
		case exceeds(l[i].Nitrogen.Lo+l[i].Helium.Lo, c, pressure, factor):
			return api.AnswerNo
		case exceeds(l[i].Nitrogen.Hi+l[i].Helium.Hi, c, pressure, factor):
			answer = api.AnswerMaybe
		}
	}
	return answer
}

// answerOf returns the answer of a task, and the greatest peaks of its steps.
func answerOf(x api.TissueTask, fine int) (int, []int) {
	states := follow(x.Table, x.Loads, x.Leg, fine)
	isKept, isBroken := true, false
	peaks := make([]int, len(x.Table))
	for j, now := range states {
		isBroken = isBroken || keeps(x.Table, now.loads, rounded(now.pressure).Hi, x.Factor) == api.AnswerNo
		if j == 0 {
			continue
		}
		before := states[j-1]
		for i, c := range x.Table {
			peak := max(before.loads[i].Nitrogen.Hi, now.loads[i].Nitrogen.Hi) + max(before.loads[i].Helium.Hi, now.loads[i].Helium.Hi)
			peaks[i] = max(peaks[i], peak)
			isKept = isKept && !exceeds(peak, c, span(before.pressure, now.pressure).Lo, x.Factor)
		}
	}
	if x.Leg.Seconds == 0 {
		for i, l := range x.Loads {
			peaks[i] = l.Nitrogen.Hi + l.Helium.Hi
		}
		return keeps(x.Table, x.Loads, x.Leg.From, x.Factor), peaks
	}
	switch {
	case isKept && isBroken:
		panic("a task is both kept and broken")
	case isKept:
		return api.AnswerYes, peaks
	case isBroken:
		return api.AnswerNo, peaks
	}
	return api.AnswerMaybe, peaks
}

// chance makes tasks.
type chance struct{ *rand.Rand }

func (c chance) from(least, most int) int { return least + c.Intn(most-least+1) }

func (c chance) table() []api.Compartment {
	t := make([]api.Compartment, c.from(1, 4))
	for i := range t {
		half := c.from(1, 1<<c.from(1, 16))
		t[i] = api.Compartment{Nitrogen: half, Helium: c.from(1, half), Base: c.from(0, 3000), Slope: c.from(1000, 3000)}
	}
	return t
}

func (c chance) gas() api.Gas {
	g := api.Gas{Oxygen: c.Intn(1001)}
	g.Helium = c.Intn(1001 - g.Oxygen)
	return []api.Gas{air, oxygen, helium, tx1845, g}[c.Intn(5)]
}

func (c chance) span(most int) api.Range {
	lo := c.Intn(most)
	return api.Range{Lo: lo, Hi: lo + c.Intn(2)*c.Intn(most/10)}
}

func (c chance) loads(compartments int) []api.TissueLoad {
	l := make([]api.TissueLoad, compartments)
	for i := range l {
		l[i] = api.TissueLoad{Nitrogen: c.span(4000000), Helium: c.span(1 << c.from(10, 21))}
	}
	return l
}

func (c chance) leg() api.TissueLeg {
	x := api.TissueLeg{From: c.from(400, 6000), To: c.from(400, 6000), Seconds: c.Intn(1 << c.from(1, 12)), Gas: c.gas()}
	if x.Seconds == 0 || c.Intn(4) == 0 {
		x.To = x.From
	}
	return x
}

func (c chance) task() api.TissueTask {
	t := c.table()
	return api.TissueTask{Table: t, Loads: c.loads(len(t)), Leg: c.leg(), Factor: c.from(0, 1000)}
}

// someTasks calls f with tasks, which are the same ones each time.
func someTasks(n int, f func(x api.TissueTask, fine int)) {
	c := chance{rand.New(rand.NewSource(3))}
	for range n {
		f(c.task(), c.from(0, api.MaxRefine))
	}
}
