package exposure_test

import (
	"math"
	"slices"
	"testing"

	"shotline/api"
	"shotline/exposure"
)

// fault is something wrong with what is asked, and its error.
type fault struct {
	name  string
	spoil func(a *asked)
	e     api.Errno
}

func faults() []fault {
	return []fault{
		{"plan", func(a *asked) { a.p.Name = "" }, api.ErrName},
		{"rules", func(a *asked) { a.r.Table = table(5, 1, 5, 1) }, api.ErrOrder},
		{"gas", func(a *asked) { a.g = fullGas }, api.ErrSum},
		{"leg", func(a *asked) { a.leg = 5 }, api.ErrMissing},
		{"breath", func(a *asked) { a.breath = 0 }, api.ErrRange},
		{"amounts", func(a *asked) { a.amounts = a.amounts[:1] }, api.ErrShape},
		{"trace", func(a *asked) { a.p.Legs = append(slices.Clone(a.p.Legs), api.DiveLeg{Seconds: 18921, Depth: 600}) }, api.ErrLarge},
		{"second", func(a *asked) { a.second = -1 }, api.ErrRange},
		{"oxygen", func(a *asked) { a.oxygen = 100001 }, api.ErrRange},
		{"surface", func(a *asked) { a.surface = 399 }, api.ErrRange},
		{"depth", func(a *asked) { a.depth = 30001 }, api.ErrRange},
	}
}

// P5.1 to P5.6, R1, R2: of several errors each function returns the one that comes first, beside a zero value.
func TestOrderOfErrors(t *testing.T) {
	order := map[string][]string{
		"CheckRules": {"rules"}, "RateAt": {"rules", "oxygen"}, "OxygenOn": {"plan", "leg"}, "ClockOf": {"plan", "rules"}, "Rested": nil,
		"Breaks": {"plan", "rules"}, "DepthsOf": {"gas", "surface", "rules"}, "Switches": {"plan"}, "FirstWrong": {"plan", "rules"},
		"LegBreath": {"plan", "leg", "breath"}, "Consumed": {"plan", "breath"}, "ConsumedAt": {"plan", "breath", "trace", "second"},
		"EscapeFrom": {"rules", "surface", "depth"}, "NeedAt": {"plan", "rules", "trace", "second"}, "Reserves": {"plan", "rules", "trace"},
		"Survives": {"plan", "rules", "amounts", "trace"}, "LastTurn": {"plan", "rules", "amounts", "trace"},
	}
	all := faults()
	for set := range 1 << len(all) {
		a := question()
		errors := map[string]api.Errno{}
		for i, f := range all {
			if set>>i&1 == 1 {
				f.spoil(&a)
				errors[f.name] = f.e
			}
		}
		for name, call := range functions() {
			want := api.OK
			for _, fault := range slices.Backward(order[name]) {
				if e := errors[fault]; e != api.OK {
					want = e
				}
			}
			x, e := call(a)
			if e != want || e != api.OK && !isZero(x) {
				t.Fatalf("%s with the errors %v: %v, error %d, want %d", name, errors, x, e, want)
			}
		}
	}
}

// P5.1 to P5.6: each number just within its range, and just out of it.
func TestRangesOfArguments(t *testing.T) {
	type test struct {
		name  string
		field func(a *asked) *int
		right []int
		wrong []int
		want  api.Errno
	}
	leg := func(a *asked) *int { return &a.leg }
	breath := func(a *asked) *int { return &a.breath }
	second := func(a *asked) *int { return &a.second }
	surface := func(a *asked) *int { return &a.surface }
	for _, c := range []test{
		{"RateAt", func(a *asked) *int { return &a.oxygen }, []int{0, 100000}, []int{-1, 100001}, api.ErrRange},
		{"OxygenOn", leg, []int{0, 3}, []int{-1, 4}, api.ErrMissing},
		{"Rested", func(a *asked) *int { return &a.clock }, []int{0, 1000000000000}, []int{-1, 1000000000001}, api.ErrRange},
		{"Rested", func(a *asked) *int { return &a.seconds }, []int{0, 10000000}, []int{-1, 10000001}, api.ErrRange},
		{"DepthsOf", surface, []int{400, 1100}, []int{399, 1101}, api.ErrRange},
		{"LegBreath", leg, []int{0, 3}, []int{-1, 4}, api.ErrMissing},
		{"LegBreath", breath, []int{1, 100000}, []int{0, -1, 100001}, api.ErrRange},
		{"Consumed", breath, []int{1, 100000}, []int{0, -1, 100001}, api.ErrRange},
		{"ConsumedAt", breath, []int{1, 100000}, []int{0, -1, 100001}, api.ErrRange},
		{"ConsumedAt", second, []int{0, 1080}, []int{-1, 1081}, api.ErrRange},
		{"EscapeFrom", surface, []int{400, 1100}, []int{399, 1101}, api.ErrRange},
		{"EscapeFrom", func(a *asked) *int { return &a.depth }, []int{0, 30000}, []int{-1, 30001}, api.ErrRange},
		{"NeedAt", second, []int{0, 1080}, []int{-1, 1081}, api.ErrRange},
		{"Survives", func(a *asked) *int { return &a.amounts[0] }, []int{2000000, 1000000000}, []int{-1, 1000000001}, api.ErrRange},
		{"Survives", func(a *asked) *int { return &a.amounts[1] }, []int{2000000, 1000000000}, []int{-1, 1000000001}, api.ErrRange},
		{"LastTurn", func(a *asked) *int { return &a.amounts[1] }, []int{0, 1000000000}, []int{-1, 1000000001}, api.ErrRange},
	} {
		for _, n := range slices.Concat(c.right, c.wrong, []int{math.MinInt, math.MaxInt}) {
			a := question()
			*c.field(&a) = n
			want := c.want
			if slices.Contains(c.right, n) {
				want = api.OK
			}
			if x, e := functions()[c.name](a); e != want || e != api.OK && !isZero(x) {
				t.Errorf("%s, %d: %v, error %d, want %d", c.name, n, x, e, want)
			}
		}
	}
}

// P5.1: the errors of a plan are those of profile.CheckPlan, whatever is wrong with the plan.
func TestWrongPlans(t *testing.T) {
	for i, c := range []struct {
		spoil func(p *api.DivePlan)
		want  api.Errno
	}{
		{func(p *api.DivePlan) { p.Name = "a b" }, api.ErrName},
		{func(p *api.DivePlan) { p.Surface = 399 }, api.ErrRange},
		{func(p *api.DivePlan) { p.Gases = nil }, api.ErrShape},
		{func(p *api.DivePlan) { p.Gases = slices.Repeat(p.Gases, 5) }, api.ErrLarge},
		{func(p *api.DivePlan) { p.Gases[1] = wideGas }, api.ErrRange},
		{func(p *api.DivePlan) { p.Gases[1] = fullGas }, api.ErrSum},
		{func(p *api.DivePlan) { p.Legs = slices.Repeat(p.Legs, 16) }, api.ErrLarge},
		{func(p *api.DivePlan) { p.Legs[3].Seconds = 0 }, api.ErrRange},
		{func(p *api.DivePlan) { p.Legs[3].Depth = -1 }, api.ErrRange},
		{func(p *api.DivePlan) { p.Legs[3].Gas = 2 }, api.ErrMissing},
		{func(p *api.DivePlan) { p.Legs[3].Seconds = 999221 }, api.ErrLarge},
	} {
		a := question()
		c.spoil(&a.p)
		for _, name := range []string{"OxygenOn", "ClockOf", "Breaks", "Switches", "FirstWrong", "LegBreath", "Consumed", "ConsumedAt", "NeedAt", "Reserves", "Survives", "LastTurn"} {
			if x, e := functions()[name](a); e != c.want || !isZero(x) {
				t.Errorf("%s, wrong plan %d: %v, error %d, want %d", name, i, x, e, c.want)
			}
		}
	}
}

// P5.4 to P5.6: a plan of 20000 seconds is followed, a longer one is not; what looks at no seconds has no such limit.
func TestLongPlans(t *testing.T) {
	long := func(seconds int) asked {
		a := question()
		a.p, a.second, a.leg = dive(api.DiveLeg{Seconds: seconds - 1, Depth: 5000}, api.DiveLeg{Seconds: 1, Depth: 5000, Gas: 1}), 20000, 1
		a.amounts = []int{1000000000, 1000000000, 0}
		return a
	}
	for name, call := range functions() {
		if _, e := call(long(20000)); e != api.OK {
			t.Errorf("%s of 20000 seconds: error %d", name, e)
		}
		want := api.OK
		if slices.Contains([]string{"ConsumedAt", "NeedAt", "Reserves", "Survives", "LastTurn"}, name) {
			want = api.ErrLarge
		}
		for _, seconds := range []int{20001, 1000000} {
			if x, e := call(long(seconds)); e != want || e != api.OK && !isZero(x) {
				t.Errorf("%s of %d seconds: %v, error %d, want %d", name, seconds, x, e, want)
			}
		}
	}
	// Of a plan that is too long, no second is wrong.
	a := long(20001)
	a.second = -1
	l, e := exposure.ConsumedAt(a.p, a.breath, a.second)
	refuse(t, "ConsumedAt", l, e, api.ErrLarge)
}
