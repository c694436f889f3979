package mix_test

import (
	"fmt"
	"math"
	"math/big"
	"math/rand"
	"reflect"
	"slices"
	"testing"

	"shotline/api"
	"shotline/mix"
)

// The tests use the exported functions alone. What they expect is found in the words of the definitions, by exact fractions.

var (
	air    = api.Gas{Oxygen: 210}
	oxygen = api.Gas{Oxygen: 1000}
	helium = api.Gas{Helium: 1000}
	nitro  = api.Gas{}
	nx32   = api.Gas{Oxygen: 320}
	tx1845 = api.Gas{Oxygen: 180, Helium: 450}

	// Gases with one error each.
	wideGas = api.Gas{Oxygen: 1001}
	fullGas = api.Gas{Oxygen: 600, Helium: 401}

	extremes = []int{math.MinInt, -10000000001, -10000000000, -1, 0, 1, 2, 3, 4, 5, 6, 499, 500, 1000, 1001, 2000, 2001, 100000, 100001, 200000, 400000, 400001, 1000000, 1000001,
		10000000, 10000001, 1000000000, 1000000001, 10000000000, 10000000001, 1000000000000000000, math.MaxInt}
)

// room, diary: the vessels and the fills of the examples.
func room() []api.MixVessel {
	return []api.MixVessel{{Name: "bank", Volume: 50000, Most: 300000}, {Name: "s12", Volume: 12000, Most: 232000}}
}

func diary() []api.MixFill {
	return []api.MixFill{in(1, "bank", air, 10000000), move(1, "bank", "s12", 1900000)}
}

// factors, deal, best, proof: the table, the task, its cheapest plan and the proof of the examples.
func factors() []api.MixFactor {
	return []api.MixFactor{{Factor: api.Range{Lo: 1000, Hi: 1000}}, {Pressure: 200000, Factor: api.Range{Lo: 1030, Hi: 1050}}}
}

func deal() api.MixTask {
	return api.MixTask{
		Sources: []api.MixSource{{Name: "air", Gas: air, Cents: 2, Amount: 10000}, {Name: "o2", Gas: oxygen, Cents: 50, Amount: 5000}},
		Total:   790, Oxygen: api.Range{Lo: 320, Hi: 340},
	}
}

func best() api.MixPlan { return api.MixPlan{Parts: []int{680, 110}, Den: 1} }

func proof() api.MixProof { return api.MixProof{Whole: -8500, OxygenLow: 48, Den: 790} }

func in(day int, to string, g api.Gas, amount int) api.MixFill {
	return api.MixFill{Kind: api.MixIn, Day: day, To: to, Gas: g, Amount: amount}
}

func move(day int, from, to string, amount int) api.MixFill {
	return api.MixFill{Kind: api.MixMove, Day: day, From: from, To: to, Amount: amount}
}

func pump(day int, from, to string, amount int) api.MixFill {
	f := move(day, from, to, amount)
	f.Pump = true
	return f
}

func vent(day int, from string, amount int) api.MixFill {
	return api.MixFill{Kind: api.MixVent, Day: day, From: from, Amount: amount}
}

func content(oxygen, helium, nitrogen int) api.MixContent {
	return api.MixContent{Oxygen: oxygen, Helium: helium, Nitrogen: nitrogen}
}

func partsOf(c api.MixContent) [3]int { return [3]int{c.Oxygen, c.Helium, c.Nitrogen} }

func sumOf(c api.MixContent) int { return c.Oxygen + c.Helium + c.Nitrogen }

func plus(c, d api.MixContent) api.MixContent {
	return content(c.Oxygen+d.Oxygen, c.Helium+d.Helium, c.Nitrogen+d.Nitrogen)
}

func minus(c, d api.MixContent) api.MixContent {
	return content(c.Oxygen-d.Oxygen, c.Helium-d.Helium, c.Nitrogen-d.Nitrogen)
}

// flat is a value in which a nil list and an empty one are the same.
func flat(x any) string { return fmt.Sprintf("%+v", x) }

func expect(t *testing.T, what string, got any, e api.Errno, want any, wanted api.Errno) {
	t.Helper()
	if e != wanted || flat(got) != flat(want) || reflect.TypeOf(got) != reflect.TypeOf(want) {
		t.Errorf("%s: %+v, error %d; want %+v, error %d", what, got, e, want, wanted)
	}
}

// refuse checks that there is this error, beside a zero value.
func refuse[T any](t *testing.T, what string, got T, e, wanted api.Errno) {
	t.Helper()
	var zero T
	expect(t, what, got, e, zero, wanted)
}

func rat(num, den int) *big.Rat { return big.NewRat(int64(num), int64(den)) }

func product(x, y *big.Rat) *big.Rat { return new(big.Rat).Mul(x, y) }

func sum(l ...*big.Rat) *big.Rat {
	x := new(big.Rat)
	for _, y := range l {
		x.Add(x, y)
	}
	return x
}

func difference(x, y *big.Rat) *big.Rat { return new(big.Rat).Sub(x, y) }

func quotient(x, y *big.Rat) *big.Rat { return new(big.Rat).Quo(x, y) }

// down, up: a fraction rounded down, and up.
func down(x *big.Rat) int {
	return int(new(big.Int).Div(x.Num(), x.Denom()).Int64())
}

func up(x *big.Rat) int { return -down(new(big.Rat).Neg(x)) }

func rounded(x *big.Rat) api.Range { return api.Range{Lo: down(x), Hi: up(x)} }

// chance makes values of all kinds.
type chance struct{ *rand.Rand }

func newChance(seed int) chance { return chance{rand.New(rand.NewSource(int64(seed)))} }

func (c chance) from(least, most int) int { return least + c.Intn(most-least+1) }

// some returns a number from 0 up to most, mostly a small one, sometimes just most.
func (c chance) some(most int) int {
	if c.Intn(8) == 0 {
		return most
	}
	return c.Intn(min(most, 1<<c.from(0, 30)) + 1)
}

func (c chance) gas() api.Gas {
	g := api.Gas{Oxygen: c.Intn(1001)}
	g.Helium = c.Intn(1001 - g.Oxygen)
	return []api.Gas{air, oxygen, helium, nitro, nx32, tx1845, g, g, g}[c.Intn(9)]
}

func (c chance) content(most int) api.MixContent {
	var p [3]int
	for _, i := range c.Perm(3) {
		p[i] = c.some(most)
		most -= p[i]
	}
	return content(p[0], p[1], p[2])
}

// asked is all that the functions are asked with.
type asked struct {
	v         []api.MixVessel
	l         []api.MixFill
	x         api.MixFill
	vessel    string
	c         api.MixContent
	amount    int
	w         api.MixWanted
	g         api.Gas
	tolerance int
	f         []api.MixFactor
	pressure  int
	pressures api.Range
	volume    int
	t         api.MixTask
	plan      api.MixPlan
	proof     api.MixProof
	refusal   api.MixProof
}

// question is what every function answers.
func question() asked {
	return asked{
		v: room(), l: diary(), x: vent(1, "s12", 1000), vessel: "s12", c: content(180, 450, 370), amount: 500,
		w: api.MixWanted{Gas: tx1845, Top: air, Total: 2000}, g: tx1845, tolerance: 10,
		f: factors(), pressure: 100000, pressures: api.Range{Lo: 100000, Hi: 120000}, volume: 12000,
		t: deal(), plan: best(), proof: proof(), refusal: api.MixProof{Whole: 1, Den: 1},
	}
}

// functions call the functions of the package but for FormatFill and ParseFill. CheckRefusal is asked with a task of too much.
func functions() map[string]func(a asked) (any, api.Errno) {
	return map[string]func(a asked) (any, api.Errno){
		"CheckVessels": func(a asked) (any, api.Errno) { return nil, mix.CheckVessels(a.v) },
		"CheckFills":   func(a asked) (any, api.Errno) { return told(mix.CheckFills(a.v, a.l)) },
		"AddFill":      func(a asked) (any, api.Errno) { return told(mix.AddFill(a.v, a.l, a.x)) },
		"Contents":     func(a asked) (any, api.Errno) { return told(mix.Contents(a.v, a.l)) },
		"Sums":         func(a asked) (any, api.Errno) { return told(mix.Sums(a.v, a.l)) },
		"PressureOf":   func(a asked) (any, api.Errno) { return told(mix.PressureOf(a.v, a.l, a.vessel)) },
		"MixtureOf":    func(a asked) (any, api.Errno) { return told(mix.MixtureOf(a.v, a.l, a.vessel)) },
		"Share":        func(a asked) (any, api.Errno) { return told(mix.Share(a.c, a.amount)) },
		"PartialFill":  func(a asked) (any, api.Errno) { return told(mix.PartialFill(a.c, a.w)) },
		"Matches":      func(a asked) (any, api.Errno) { return told(mix.Matches(a.c, a.g, a.tolerance)) },
		"CheckFactors": func(a asked) (any, api.Errno) { return nil, mix.CheckFactors(a.f) },
		"FactorAt":     func(a asked) (any, api.Errno) { return told(mix.FactorAt(a.f, a.pressure)) },
		"RealAmount":   func(a asked) (any, api.Errno) { return told(mix.RealAmount(a.f, a.pressures, a.volume)) },
		"CheckTask":    func(a asked) (any, api.Errno) { return nil, mix.CheckTask(a.t) },
		"CheapestFill": func(a asked) (any, api.Errno) {
			plan, _, e := mix.CheapestFill(a.t)
			return plan, e
		},
		"its proof": func(a asked) (any, api.Errno) {
			_, proof, e := mix.CheapestFill(a.t)
			return proof, e
		},
		"CheckPlan":  func(a asked) (any, api.Errno) { return told(mix.CheckPlan(a.t, a.plan)) },
		"CheckProof": func(a asked) (any, api.Errno) { return told(mix.CheckProof(a.t, a.proof)) },
		"CheckRefusal": func(a asked) (any, api.Errno) {
			a.t.Total += 20000
			return told(mix.CheckRefusal(a.t, a.refusal))
		},
		"Compare": func(a asked) (any, api.Errno) { return told(mix.Compare(a.t, a.plan, a.proof)) },
	}
}

func told[T any](x T, e api.Errno) (any, api.Errno) { return x, e }

// isZero tells whether a value is the zero value of its type, or an empty list.
func isZero(x any) bool {
	v := reflect.ValueOf(x)
	return !v.IsValid() || v.IsZero() || v.Kind() == reflect.Slice && v.Len() == 0
}

// gasOf returns the thousandths of a gas.
func gasOf(g api.Gas) [3]int { return [3]int{g.Oxygen, g.Helium, 1000 - g.Oxygen - g.Helium} }

// shareOf returns a share in the words of the definition: what is missing goes to the gases in the order of their rests.
func shareOf(c api.MixContent, amount int) api.MixContent {
	if sumOf(c) == 0 {
		return c
	}
	var share [3]int
	var rests [3]*big.Rat
	missing := amount
	for i, n := range partsOf(c) {
		exact := quotient(product(rat(n, 1), rat(amount, 1)), rat(sumOf(c), 1))
		share[i] = down(exact)
		rests[i] = difference(exact, rat(share[i], 1))
		missing -= share[i]
	}
	order := []int{0, 1, 2}
	slices.SortStableFunc(order, func(i, j int) int { return rests[j].Cmp(rests[i]) })
	for _, i := range order[:missing] {
		share[i]++
	}
	return content(share[0], share[1], share[2])
}
