package mix_test

import (
	"math"
	"slices"
	"testing"

	"shotline/api"
)

// fault is something wrong with what is asked, and its error.
type fault struct {
	name  string
	spoil func(a *asked)
	e     api.Errno
}

func faults() []fault {
	return []fault{
		{"vessels", func(a *asked) { a.v[1].Name = "bank" }, api.ErrExists},
		{"fills", func(a *asked) { a.l[0].Pump = true }, api.ErrForm},
		{"full", func(a *asked) { a.l = append(a.l, slices.Repeat([]api.MixFill{vent(1, "s12", 1)}, 198)...) }, api.ErrLarge},
		{"fill", func(a *asked) { a.x.Kind = 3 }, api.ErrKind},
		{"vessel", func(a *asked) { a.vessel = "x" }, api.ErrMissing},
		{"empty", func(a *asked) { a.l = a.l[:1] }, api.ErrZero},
		{"content", func(a *asked) { a.c.Oxygen = -1 }, api.ErrRange},
		{"nothing", func(a *asked) { a.c = api.MixContent{} }, api.ErrZero},
		{"amount", func(a *asked) { a.amount = -1 }, api.ErrRange},
		{"wanted gas", func(a *asked) { a.w.Gas = fullGas }, api.ErrSum},
		{"wanted top", func(a *asked) { a.w.Top = wideGas }, api.ErrRange},
		{"wanted total", func(a *asked) { a.w.Total = -1 }, api.ErrRange},
		{"no nitrogen", func(a *asked) { a.w.Top = oxygen }, api.ErrZero},
		{"no way", func(a *asked) { a.w.Gas = oxygen }, api.ErrNone},
		{"gas", func(a *asked) { a.g = fullGas }, api.ErrSum},
		{"tolerance", func(a *asked) { a.tolerance = 1001 }, api.ErrRange},
		{"factors", func(a *asked) { a.f = nil }, api.ErrShape},
		{"pressure", func(a *asked) { a.pressure = 200001 }, api.ErrRange},
		{"turned", func(a *asked) { a.pressures.Lo = a.pressures.Hi + 1 }, api.ErrOrder},
		{"pressures", func(a *asked) { a.pressures.Lo, a.pressures.Hi = a.pressures.Lo-400000, a.pressures.Hi-400000 }, api.ErrRange},
		{"volume", func(a *asked) { a.volume = 0 }, api.ErrRange},
		{"task", func(a *asked) { a.t.Sources[1].Name = "o_2" }, api.ErrName},
		{"no fill", func(a *asked) { a.t.Helium = api.Range{Lo: 1, Hi: 1} }, api.ErrNone},
		{"plan", func(a *asked) { a.plan.Parts = a.plan.Parts[:1] }, api.ErrShape},
		{"den of the plan", func(a *asked) { a.plan.Den = 0 }, api.ErrRange},
		{"stock", func(a *asked) { a.plan.Parts[0] = -1 }, api.ErrStock},
		{"proof", func(a *asked) { a.proof.Den = 0 }, api.ErrRange},
		{"refusal", func(a *asked) { a.refusal.Den = 0 }, api.ErrRange},
		{"weak", func(a *asked) { a.refusal.Whole = 0 }, api.ErrProof},
	}
}

// orderOf returns for each function the faults that it looks for, in the order of their errors.
func orderOf() map[string][]string {
	return map[string][]string{
		"CheckVessels": {"vessels"},
		"CheckFills":   {"vessels", "fills"},
		"AddFill":      {"vessels", "fills", "full", "fill"},
		"Contents":     {"vessels", "fills"},
		"Sums":         {"vessels", "fills"},
		"PressureOf":   {"vessels", "fills", "vessel"},
		"MixtureOf":    {"vessels", "fills", "vessel", "empty"},
		"Share":        {"content", "amount"},
		"PartialFill":  {"content", "wanted gas", "wanted top", "wanted total", "no nitrogen", "no way"},
		"Matches":      {"content", "gas", "nothing", "tolerance"},
		"CheckFactors": {"factors"},
		"FactorAt":     {"factors", "pressure"},
		"RealAmount":   {"factors", "turned", "pressures", "volume"},
		"CheckTask":    {"task"},
		"CheapestFill": {"task", "no fill"},
		"its proof":    {"task"},
		"CheckPlan":    {"task", "plan", "den of the plan", "stock"},
		"CheckProof":   {"task", "proof"},
		"CheckRefusal": {"task", "refusal", "weak"},
		"Compare":      {"task", "plan", "den of the plan", "stock", "proof"},
	}
}

// P6.1 to P6.7, R1, R2: of several errors each function returns the one that comes first, beside a zero value. What it does not
// look for is wrong all the time, but for what would change the faults.
func TestOrderOfErrors(t *testing.T) {
	all := map[string]fault{}
	for _, f := range faults() {
		all[f.name] = f
	}
	for name, call := range functions() {
		order := orderOf()[name]
		for set := range 1 << len(order) {
			a, wanted := question(), api.OK
			// The last fault is laid first, as "nothing" and "empty" would undo others.
			for i, fault := range slices.Backward(order) {
				if set>>i&1 == 1 {
					all[fault].spoil(&a)
					wanted = all[fault].e
				}
			}
			x, e := call(a)
			if e != wanted || e != api.OK && !isZero(x) {
				t.Errorf("%s with %v, set %b: %v, error %d, want %d", name, order, set, x, e, wanted)
			}
		}
	}
}

// P6.1 to P6.7, R2: what a function does not take, or look at, brings no error.
func TestErrorsOfOthers(t *testing.T) {
	for name, call := range functions() {
		for _, f := range faults() {
			if slices.Contains(orderOf()[name], f.name) || slices.Contains(alsoWrong(name), f.name) {
				continue
			}
			a := question()
			f.spoil(&a)
			if x, e := call(a); e != api.OK {
				t.Errorf("%s with the fault %s: %v, error %d", name, f.name, x, e)
			}
		}
	}
}

// alsoWrong returns the faults that a function meets as another one.
func alsoWrong(name string) []string {
	return map[string][]string{
		"AddFill":   {"empty"},
		"Share":     {"nothing"},
		"its proof": {"no fill"},
		"CheckPlan": {"no fill"},
		"Compare":   {"no fill"},
	}[name]
}

// P6.2, P6.4, P6.5: each number just within its range, and just out of it.
func TestRangesOfArguments(t *testing.T) {
	for _, c := range []struct {
		name  string
		field func(a *asked) *int
		right []int
		wrong []int
	}{
		{"Share", func(a *asked) *int { return &a.amount }, []int{0, 1, 999, 1000}, []int{-1, 1001}},
		{"PartialFill", func(a *asked) *int { return &a.w.Total }, []int{1000, 1000000000}, []int{-1, 999, 1000000001}},
		{"Matches", func(a *asked) *int { return &a.tolerance }, []int{0, 1000}, []int{-1, 1001}},
		{"FactorAt", func(a *asked) *int { return &a.pressure }, []int{0, 200000}, []int{-1, 200001}},
		{"RealAmount", func(a *asked) *int { return &a.pressures.Lo }, []int{0, 120000}, []int{-1}},
		{"RealAmount", func(a *asked) *int { return &a.pressures.Hi }, []int{100000, 200000}, []int{200001}},
		{"RealAmount", func(a *asked) *int { return &a.volume }, []int{1, 1000000}, []int{0, -1, 1000001}},
	} {
		wrong := c.wrong
		if c.name != "RealAmount" {
			wrong = append(wrong, math.MinInt, math.MaxInt)
		}
		for _, n := range slices.Concat(c.right, wrong) {
			a := question()
			*c.field(&a) = n
			wanted := api.ErrRange
			if slices.Contains(c.right, n) {
				wanted = api.OK
			}
			if x, e := functions()[c.name](a); e != wanted || e != api.OK && !isZero(x) {
				t.Errorf("%s, %d: %v, error %d, want %d", c.name, n, x, e, wanted)
			}
		}
	}
}
