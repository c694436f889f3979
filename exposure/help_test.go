package exposure_test

import (
	"fmt"
	"math"
	"math/big"
	"math/rand"
	"reflect"
	"slices"
	"testing"

	"shotline/api"
	"shotline/exposure"
	"shotline/profile"
)

// The tests use the exported functions alone. What they expect is found in the words of the definitions by exact fractions,
// leg by leg or second by second, with functions of package profile, which has tests of its own.

var (
	air    = api.Gas{Oxygen: 210}
	oxygen = api.Gas{Oxygen: 1000}
	helium = api.Gas{Helium: 1000}
	nx50   = api.Gas{Oxygen: 500}
	tx1845 = api.Gas{Oxygen: 180, Helium: 450}

	// Gases with one error each.
	wideGas = api.Gas{Oxygen: 1001}
	fullGas = api.Gas{Oxygen: 600, Helium: 401}

	extremes = []int{math.MinInt, -1, 0, 1, 2, 3, 4, 60, 399, 400, 1000, 1001, 1100, 1101, 3000, 3001, 3600, 3601, 4000, 4001, 20000, 20001, 30000, 30001,
		100000, 100001, 1000000, 1000001, 10000000, 10000001, 1000000000, 1000000001, 1000000000000, 1000000000001, math.MaxInt}
)

// reef is the plan of the examples.
func reef() api.DivePlan {
	return api.DivePlan{Name: "p", Surface: 1013, Gases: []api.Gas{air, nx50}, Legs: []api.DiveLeg{
		{Seconds: 60, Depth: 1800}, {Seconds: 600, Depth: 1800}, {Seconds: 120, Depth: 600}, {Seconds: 300, Depth: 600, Gas: 1}}}
}

// sample are the rules of the examples.
func sample() api.ExposureRules {
	return api.ExposureRules{
		Table:  []api.OxygenRow{{From: 500, Rate: 100}, {From: 1000, Rate: 300}},
		Oxygen: api.OxygenLimits{Least: 160, Most: 1400}, Narcotic: 3000, Dense: 5200,
		Breath: 20000, Emergency: 40000, Pause: 60, Ascent: 1000,
	}
}

// dive is a plan with these legs and the surface pressure 1000, on air, oxygen, and air again.
func dive(legs ...api.DiveLeg) api.DivePlan {
	return api.DivePlan{Name: "d", Surface: 1000, Gases: []api.Gas{air, oxygen, air}, Legs: legs}
}

// table are the rows of pairs of numbers.
func table(numbers ...int) []api.OxygenRow {
	var t []api.OxygenRow
	for pair := range slices.Chunk(numbers, 2) {
		t = append(t, api.OxygenRow{From: pair[0], Rate: pair[1]})
	}
	return t
}

// flat is a value in which a nil list and an empty one are the same.
func flat(x any) string { return fmt.Sprintf("%+v", x) }

func expect(t *testing.T, what string, got any, e api.Errno, want any, wanted api.Errno) {
	t.Helper()
	if e != wanted || flat(got) != flat(want) || reflect.TypeOf(got) != reflect.TypeOf(want) {
		t.Errorf("%s: %+v, error %d; want %+v, error %d", what, got, e, want, wanted)
	}
}

// refuse checks that there is this error, beside a zero value.
func refuse[T any](t *testing.T, what string, got T, e, wanted api.Errno) {
	t.Helper()
	var zero T
	expect(t, what, got, e, zero, wanted)
}

func rat(num, den int) *big.Rat { return big.NewRat(int64(num), int64(den)) }

// product returns the product of numbers.
func product(l ...*big.Rat) *big.Rat {
	x := rat(1, 1)
	for _, y := range l {
		x.Mul(x, y)
	}
	return x
}

// up returns a fraction rounded up.
func up(x *big.Rat) int {
	n, rest := new(big.Int).DivMod(x.Num(), x.Denom(), new(big.Int))
	return int(n.Int64()) + rest.Sign()
}

// begin returns the second and the depth at which a leg begins.
func begin(p api.DivePlan, leg int) (second, depth int) {
	for _, l := range p.Legs[:leg] {
		second, depth = second+l.Seconds, l.Depth
	}
	return second, depth
}

func endOf(p api.DivePlan) int {
	second, _ := begin(p, len(p.Legs))
	return second
}

// oxygenOf returns the pressures of oxygen between which a leg goes, in thousandths, ascending.
func oxygenOf(p api.DivePlan, leg int) (least, most int) {
	_, depth := begin(p, leg)
	share := p.Gases[p.Legs[leg].Gas].Oxygen
	l := []int{share * (p.Surface + depth), share * (p.Surface + p.Legs[leg].Depth)}
	slices.Sort(l)
	return l[0], l[1]
}

// rateOf returns the rate of a pressure of oxygen in thousandths, from the last row up.
func rateOf(t []api.OxygenRow, oxygen int) int {
	for _, row := range slices.Backward(t) {
		if 1000*row.From <= oxygen {
			return row.Rate
		}
	}
	return 0
}

// clockOf returns the clock of a leg: it goes from boundary to boundary.
func clockOf(p api.DivePlan, leg int, t []api.OxygenRow) int {
	at, most := oxygenOf(p, leg)
	seconds := rat(p.Legs[leg].Seconds, 1)
	if at == most {
		return up(product(seconds, rat(rateOf(t, at), 1)))
	}
	perSecond := new(big.Rat).Quo(rat(most-at, 1), seconds)
	sum := rat(0, 1)
	for at < most {
		next := most
		for _, row := range t {
			if 1000*row.From > at {
				next = min(next, 1000*row.From)
			}
		}
		time := new(big.Rat).Quo(rat(next-at, 1), perSecond)
		sum.Add(sum, product(time, rat(rateOf(t, at), 1)))
		at = next
	}
	return up(sum)
}

// breathOf returns what a leg breathes in its first seconds: litres a second, times seconds, times the mean pressure.
func breathOf(p api.DivePlan, leg, breath, seconds int) int {
	_, from := begin(p, leg)
	gone := product(rat(p.Legs[leg].Depth-from, p.Legs[leg].Seconds), rat(seconds, 1))
	mean := gone.Add(product(gone, rat(1, 2)), rat(p.Surface+from, 1))
	return up(product(rat(breath, 60*1000), rat(seconds, 1), mean))
}

// consumedAt returns what is breathed of each gas up to a second.
func consumedAt(p api.DivePlan, breath, second int) []int {
	l := make([]int, len(p.Gases))
	for i, leg := range p.Legs {
		if from, _ := begin(p, i); from < second {
			l[leg.Gas] += breathOf(p, i, breath, min(leg.Seconds, second-from))
		}
	}
	return l
}

// escapeOf returns the escape: a pause, and depth / Ascent minutes at the mean pressure.
func escapeOf(r api.ExposureRules, surface, depth int) int {
	litres := rat(r.Emergency, 1000)
	pause := product(litres, rat(r.Pause, 60), rat(surface+depth, 1))
	ascent := product(litres, rat(depth, r.Ascent), rat(surface+surface+depth, 2))
	return up(pause.Add(pause, ascent))
}

// needOf returns the number of the gas at a second of a plan with legs, and how much is needed of it.
func needOf(p api.DivePlan, r api.ExposureRules, second int) (number, amount int) {
	number, e := profile.GasAt(p, second)
	depth, e2 := profile.DepthAt(p, second)
	if e != api.OK || e2 != api.OK {
		panic(fmt.Sprintf("%+v, second %d: error %d, %d", p, second, e, e2))
	}
	return number, consumedAt(p, r.Breath, second)[number] + escapeOf(r, p.Surface, depth.Hi)
}

// kindsAt returns the kinds of what is broken by a gas at a depth, in whole numbers.
func kindsAt(g api.Gas, surface, depth int, r api.ExposureRules) []int {
	p := surface + depth
	weight := 1429*g.Oxygen + 179*g.Helium + 1251*(1000-g.Oxygen-g.Helium)
	var l []int
	for i, broken := range []bool{g.Oxygen*p < 1000*r.Oxygen.Least, g.Oxygen*p > 1000*r.Oxygen.Most, (1000-g.Helium)*p > 1000*(surface+r.Narcotic), weight*p > 1013000*r.Dense} {
		if broken {
			l = append(l, i+1)
		}
	}
	return l
}

// breaksOf returns all that is broken at one of the ends of a leg.
func breaksOf(p api.DivePlan, r api.ExposureRules) []api.LegBreak {
	var l []api.LegBreak
	for i, leg := range p.Legs {
		_, from := begin(p, i)
		g := p.Gases[leg.Gas]
		ends := slices.Concat(kindsAt(g, p.Surface, from, r), kindsAt(g, p.Surface, leg.Depth, r))
		slices.Sort(ends)
		for _, kind := range slices.Compact(ends) {
			l = append(l, api.LegBreak{Leg: i, Kind: kind})
		}
	}
	return l
}

// chance makes plans and rules.
type chance struct{ *rand.Rand }

func (c chance) from(least, most int) int { return least + c.Intn(most-least+1) }

func (c chance) gas() api.Gas {
	g := api.Gas{Oxygen: c.Intn(1001)}
	g.Helium = c.Intn(1001 - g.Oxygen)
	return []api.Gas{air, oxygen, helium, tx1845, nx50, g, g}[c.Intn(7)]
}

func (c chance) plan() api.DivePlan {
	p := api.DivePlan{Name: "c", Surface: c.from(400, 1100)}
	for range c.from(1, 4) {
		p.Gases = append(p.Gases, c.gas())
	}
	depth := 0
	for range c.from(1, 7) {
		if c.Intn(3) > 0 {
			depth = c.Intn(1 << c.from(3, 13))
		}
		p.Legs = append(p.Legs, api.DiveLeg{Seconds: c.from(1, 1<<c.from(1, 7)), Depth: depth, Gas: c.Intn(len(p.Gases))})
	}
	return p
}

func (c chance) rules() api.ExposureRules {
	r := api.ExposureRules{
		Oxygen: api.OxygenLimits{Least: c.from(1, 300), Most: c.from(300, 4000)}, Narcotic: c.Intn(8000), Dense: c.from(500, 12000),
		Breath: c.from(1, 1<<c.from(1, 16)), Emergency: c.from(1, 1<<c.from(1, 16)), Pause: c.Intn(1 << c.from(0, 11)), Ascent: c.from(1, 3000),
	}
	from := c.Intn(2) * c.Intn(400)
	for range c.from(0, 5) {
		r.Table = append(r.Table, api.OxygenRow{From: from, Rate: c.Intn(1 << c.from(1, 16))})
		from += c.from(1, 700)
	}
	return r
}

// someDives calls f with plans and rules, which are the same ones each time.
func someDives(n int, f func(c chance, p api.DivePlan, r api.ExposureRules)) {
	for i := range n {
		c := chance{rand.New(rand.NewSource(int64(i)))}
		f(c, c.plan(), c.rules())
	}
}

// asked is all that the functions are asked with.
type asked struct {
	p                                                           api.DivePlan
	r                                                           api.ExposureRules
	g                                                           api.Gas
	leg, breath, second, oxygen, surface, depth, clock, seconds int
	amounts                                                     []int
}

// question is what every function answers.
func question() asked {
	r := sample()
	r.Narcotic = 1500
	return asked{p: reef(), r: r, g: air, leg: 2, breath: 20000, second: 700, oxygen: 600, surface: 1013, depth: 1000, clock: 60000, seconds: 6000, amounts: []int{2000000, 2000000}}
}

// functions call the functions of the package but for Print and Parse; Survives keeps its second.
func functions() map[string]func(a asked) (any, api.Errno) {
	return map[string]func(a asked) (any, api.Errno){
		"CheckRules": func(a asked) (any, api.Errno) { return nil, exposure.CheckRules(a.r) },
		"RateAt":     func(a asked) (any, api.Errno) { return told(exposure.RateAt(a.r, a.oxygen)) },
		"OxygenOn":   func(a asked) (any, api.Errno) { return told(exposure.OxygenOn(a.p, a.leg)) },
		"ClockOf":    func(a asked) (any, api.Errno) { return told(exposure.ClockOf(a.p, a.r)) },
		"Rested":     func(a asked) (any, api.Errno) { return told(exposure.Rested(a.clock, a.seconds)) },
		"Breaks":     func(a asked) (any, api.Errno) { return told(exposure.Breaks(a.p, a.r)) },
		"DepthsOf":   func(a asked) (any, api.Errno) { return told(exposure.DepthsOf(a.g, a.surface, a.r)) },
		"Switches":   func(a asked) (any, api.Errno) { return told(exposure.Switches(a.p)) },
		"FirstWrong": func(a asked) (any, api.Errno) { return told(exposure.FirstWrong(a.p, a.r)) },
		"LegBreath":  func(a asked) (any, api.Errno) { return told(exposure.LegBreath(a.p, a.leg, a.breath)) },
		"Consumed":   func(a asked) (any, api.Errno) { return told(exposure.Consumed(a.p, a.breath)) },
		"ConsumedAt": func(a asked) (any, api.Errno) { return told(exposure.ConsumedAt(a.p, a.breath, a.second)) },
		"EscapeFrom": func(a asked) (any, api.Errno) { return told(exposure.EscapeFrom(a.r, a.surface, a.depth)) },
		"NeedAt": func(a asked) (any, api.Errno) {
			number, amount, e := exposure.NeedAt(a.p, a.r, a.second)
			return [2]int{number, amount}, e
		},
		"Reserves": func(a asked) (any, api.Errno) { return told(exposure.Reserves(a.p, a.r)) },
		"Survives": func(a asked) (any, api.Errno) { return told(exposure.Survives(a.p, a.r, a.amounts)) },
		"LastTurn": func(a asked) (any, api.Errno) { return told(exposure.LastTurn(a.p, a.r, a.amounts)) },
	}
}

func told[T any](x T, e api.Errno) (any, api.Errno) { return x, e }

// isZero tells whether a value is the zero value of its type, or an empty list.
func isZero(x any) bool {
	v := reflect.ValueOf(x)
	return !v.IsValid() || v.IsZero() || v.Kind() == reflect.Slice && v.Len() == 0
}
