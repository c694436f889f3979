package mix_test

import (
	"math/big"
	"testing"

	"shotline/api"
	"shotline/mix"
)

// cheapest returns the least cost of a task, or nil if its refusal holds; it checks what CheapestFill returns by the definitions.
func cheapest(t *testing.T, x api.MixTask) *big.Rat {
	t.Helper()
	plan, proof, e := mix.CheapestFill(x)
	if e == api.ErrNone {
		expect(t, "the plan", plan, e, api.MixPlan{}, api.ErrNone)
		if proof.Den < 1 || value(x, proof, 0).Sign() <= 0 {
			t.Errorf("%+v does not refuse %+v", proof, x)
		}
		if n, e := mix.CheckRefusal(x, proof); e != api.OK || n <= 0 {
			t.Errorf("CheckRefusal(%+v, %+v): %d, error %d", x, proof, n, e)
		}
		return nil
	}
	if e != api.OK || len(plan.Parts) != len(x.Sources) || plan.Den < 1 || proof.Den < 1 {
		t.Fatalf("CheapestFill(%+v): %+v, %+v, error %d", x, plan, proof, e)
	}
	cents, e := cost(x, plan)
	if e != api.OK || cents.Cmp(value(x, proof, 1)) != 0 {
		t.Errorf("CheapestFill(%+v): %+v, %+v: %v, error %d, and %v", x, plan, proof, cents, e, value(x, proof, 1))
	}
	n, e := mix.Compare(x, plan, proof)
	expect(t, "Compare", n, e, 0, api.OK)
	return cents
}

// P6.7: the examples, and edges.
func TestCheapestFill(t *testing.T) {
	for i, test := range []struct {
		spoil func(x *api.MixTask)
		want  *big.Rat
	}{
		{func(x *api.MixTask) {}, rat(6860, 1)},
		{func(x *api.MixTask) { x.Sources = x.Sources[:1] }, nil},
		{func(x *api.MixTask) { x.Sources = x.Sources[1:] }, nil},
		{func(x *api.MixTask) { x.Sources[0].Cents, x.Sources[1].Cents = 50, 2 }, rat(660*50+130*2, 1)},
		{func(x *api.MixTask) { x.Sources[0].Cents, x.Sources[1].Cents = 0, 0 }, rat(0, 1)},
		{func(x *api.MixTask) { x.Sources[1].Amount = 110 }, rat(6860, 1)},
		{func(x *api.MixTask) { x.Sources[1].Amount = 109 }, nil},
		{func(x *api.MixTask) { x.Sources[0].Amount = 680 }, rat(6860, 1)},
		{func(x *api.MixTask) { x.Sources[0].Amount = 679 }, rat(679*2+111*50, 1)},
		{func(x *api.MixTask) { x.Sources[0].Amount = 660 }, rat(660*2+130*50, 1)},
		{func(x *api.MixTask) { x.Sources[0].Amount = 659 }, nil},
		{func(x *api.MixTask) { x.Total = 1 }, rat(6860, 790)},
		{func(x *api.MixTask) { x.Oxygen = api.Range{Lo: 210, Hi: 210} }, rat(1580, 1)},
		{func(x *api.MixTask) { x.Oxygen = api.Range{Lo: 0, Hi: 209} }, nil},
		{func(x *api.MixTask) { x.Helium.Hi = 1000 }, rat(6860, 1)},
		{func(x *api.MixTask) { x.Helium = api.Range{Lo: 1, Hi: 1000} }, nil},
		// What is there already has the helium, or more of it than may be.
		{func(x *api.MixTask) { x.Begin = content(210, 0, 790); x.Total = 1790 }, rat(1580*790+48*(1790*320-210000-790*210), 790)},
		{func(x *api.MixTask) { x.Begin = content(0, 1, 0) }, nil},
		{func(x *api.MixTask) { x.Begin = content(0, 1, 0); x.Helium = api.Range{Lo: 1, Hi: 1} }, nil},
		{func(x *api.MixTask) { x.Begin = content(0, 1, 0); x.Helium = api.Range{Lo: 1, Hi: 2} }, rat(789*2*790+48*(252800-789*210), 790)},
		// Nothing is asked for.
		{func(x *api.MixTask) { x.Begin = content(260, 0, 530) }, rat(0, 1)},
		{func(x *api.MixTask) { x.Begin = content(252, 0, 538) }, nil},
		{func(x *api.MixTask) { x.Begin = content(269, 0, 521) }, nil},
		{func(x *api.MixTask) { x.Begin = content(260, 1, 529) }, nil},
		// A third gas is cheaper than what it takes the place of, a source of the same gas is, as far as it goes.
		{func(x *api.MixTask) {
			x.Sources = append(x.Sources, api.MixSource{Name: "nx32", Gas: nx32, Cents: 8, Amount: 790})
		}, rat(6320, 1)},
		{func(x *api.MixTask) {
			x.Sources = append(x.Sources, api.MixSource{Name: "nx32", Gas: nx32, Cents: 8, Amount: 79})
		}, rat(6860-686+632, 1)},
		{func(x *api.MixTask) {
			x.Sources = append(x.Sources, api.MixSource{Name: "nx32", Gas: nx32, Cents: 9, Amount: 790})
		}, rat(6860, 1)},
		{func(x *api.MixTask) {
			x.Sources = append(x.Sources, api.MixSource{Name: "air2", Gas: air, Cents: 1, Amount: 80})
		}, rat(6780, 1)},
		// Three gases decide: a of helium, b of oxygen, c of nitrogen.
		{func(x *api.MixTask) {
			x.Sources = []api.MixSource{{Name: "he", Gas: helium, Cents: 1000, Amount: 10000000}, {Name: "o2", Gas: oxygen, Cents: 999, Amount: 10000000}, {Name: "n2", Gas: nitro, Cents: 1000, Amount: 10000000}}
			x.Total, x.Oxygen, x.Helium = 9999999, api.Range{Lo: 180, Hi: 181}, api.Range{Lo: 450, Hi: 451}
		}, difference(rat(9999999000, 1), rat(9999999*181, 1000))},
	} {
		x := deal()
		test.spoil(&x)
		got := cheapest(t, x)
		if (got == nil) != (test.want == nil) || got != nil && got.Cmp(test.want) != 0 {
			t.Errorf("task %d: %v, want %v", i, got, test.want)
		}
	}
}

// P6.7: where just one plan is cheapest, it is found, in lowest terms; where nothing is asked for, it is 0 of each.
func TestCheapestPlans(t *testing.T) {
	plan, _, e := mix.CheapestFill(deal())
	expect(t, "the plan", plan, e, best(), api.OK)
	x := deal()
	x.Total = 1
	plan, _, e = mix.CheapestFill(x)
	expect(t, "the plan of 1", plan, e, api.MixPlan{Parts: []int{68, 11}, Den: 79}, api.OK)
	x = deal()
	x.Begin = content(260, 0, 530)
	plan, _, e = mix.CheapestFill(x)
	expect(t, "the plan of nothing", plan, e, api.MixPlan{Parts: []int{0, 0}, Den: 1}, api.OK)
}

// P6.7, P6.9: tasks by chance have a plan and a proof that prove each other, or are refused; a wider range, or more of a source,
// makes no fill dearer; no part of a plan is below what any other proof tells.
func TestCheapestByChance(t *testing.T) {
	found, refused := 0, 0
	for seed := range 6000 {
		c := newChance(seed)
		x := c.task()
		cents := cheapest(t, x)
		wider := x
		wider.Sources = append([]api.MixSource{}, x.Sources...)
		switch c.Intn(5) {
		case 0:
			wider.Oxygen.Lo = c.Intn(x.Oxygen.Lo + 1)
		case 1:
			wider.Oxygen.Hi = c.from(x.Oxygen.Hi, 1000)
		case 2:
			wider.Helium.Lo = c.Intn(x.Helium.Lo + 1)
		case 3:
			wider.Helium.Hi = c.from(x.Helium.Hi, 1000)
		case 4:
			s := &wider.Sources[c.Intn(len(wider.Sources))]
			s.Amount = c.from(s.Amount, 10000000)
		}
		less := cheapest(t, wider)
		if cents == nil {
			refused++
			continue
		}
		found++
		if less == nil || less.Cmp(cents) > 0 {
			t.Errorf("%+v costs %v, %+v %v", x, cents, wider, less)
		}
		if proof := c.proof(); value(x, proof, 1).Cmp(cents) > 0 {
			t.Errorf("%+v costs %v, less than %+v tells", x, cents, proof)
		}
	}
	if found < 1000 || refused < 1000 {
		t.Errorf("%d tasks had a plan, %d were refused", found, refused)
	}
}

// P6.7, P6.9: of small tasks, all plans of whole numbers are looked at: none is cheaper, and of a refused one there is none.
func TestCheapestOfSmallTasks(t *testing.T) {
	wholes := 0
	for seed := range 400 {
		c := newChance(seed)
		var x api.MixTask
		for i := range c.from(1, 4) {
			x.Sources = append(x.Sources, api.MixSource{Name: string(rune('a' + i)), Gas: c.gas(), Cents: c.Intn(30), Amount: c.Intn(7)})
		}
		x.Begin = c.content(3)
		x.Total = sumOf(x.Begin) + c.from(1, 12)
		x.Oxygen.Lo, x.Helium.Lo = c.Intn(500), c.Intn(500)
		x.Oxygen.Hi, x.Helium.Hi = c.from(x.Oxygen.Lo, 1000), c.from(x.Helium.Lo, 1000)
		cents := cheapest(t, x)
		parts := make([]int, len(x.Sources))
		for n, all := 0, 1<<(3*len(parts)); n < all; n++ {
			for i := range parts {
				parts[i] = n >> (3 * i) & 7
			}
			whole, e := cost(x, api.MixPlan{Parts: parts, Den: 1})
			if e != api.OK {
				continue
			}
			wholes++
			if cents == nil || whole.Cmp(cents) < 0 {
				t.Errorf("%+v costs %v, %v %v", x, cents, parts, whole)
			}
		}
	}
	if wholes < 300 {
		t.Errorf("there were only %d plans", wholes)
	}
}

// P6.7: the greatest numbers there are; parts and weights stay within their limits.
func TestGreatestTasks(t *testing.T) {
	c := newChance(1)
	for range 3000 {
		var x api.MixTask
		for i := range 5 {
			g := []api.Gas{oxygen, helium, nitro, {Oxygen: 999}, {Helium: 999}, {Oxygen: 1}, {Helium: 1}, {Oxygen: 999, Helium: 1}, {Oxygen: 1, Helium: 999}, {Oxygen: 499, Helium: 500}}[c.Intn(10)]
			x.Sources = append(x.Sources, api.MixSource{Name: string(rune('a' + i)), Gas: g, Cents: 1000 - c.Intn(2)*c.Intn(1001), Amount: 10000000 - c.Intn(2)*c.Intn(10000001)})
		}
		x.Begin = c.content(c.Intn(2) * c.Intn(10000000))
		x.Total = 10000000 - c.Intn(2)
		x.Oxygen.Lo = c.Intn(1001)
		x.Helium.Lo = c.Intn(1001 - x.Oxygen.Lo)
		x.Oxygen.Hi, x.Helium.Hi = min(1000, x.Oxygen.Lo+c.Intn(3)), min(1000, x.Helium.Lo+c.Intn(3))
		cheapest(t, x)
	}
}
