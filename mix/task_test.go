package mix_test

import (
	"math"
	"math/big"
	"slices"
	"testing"

	"shotline/api"
	"shotline/mix"
)

// P6.6: what is wrong with a task, one by one; what comes behind it may be wrong, too.
func TestCheckTask(t *testing.T) {
	source := func(name string, g api.Gas, cents, amount int) api.MixSource {
		return api.MixSource{Name: name, Gas: g, Cents: cents, Amount: amount}
	}
	for i, test := range []struct {
		spoil func(x *api.MixTask)
		e     api.Errno
	}{
		{func(x *api.MixTask) {}, api.OK},
		{func(x *api.MixTask) { x.Sources = nil; x.Total = 0 }, api.ErrShape},
		{func(x *api.MixTask) { x.Sources = x.Sources[:1] }, api.OK},
		{func(x *api.MixTask) { x.Sources = five() }, api.OK},
		{func(x *api.MixTask) { x.Sources = append(five(), source("f", air, 1, 1)) }, api.ErrLarge},
		{func(x *api.MixTask) { x.Sources = append(five(), source("", fullGas, -1, -1)) }, api.ErrLarge},
		{func(x *api.MixTask) { x.Sources[1] = source("", fullGas, -1, -1); x.Total = 0 }, api.ErrName},
		{func(x *api.MixTask) { x.Sources[1] = source("abcdefghijklm", air, 1, 1) }, api.ErrName},
		{func(x *api.MixTask) { x.Sources[1] = source("air", fullGas, -1, -1) }, api.ErrExists},
		{func(x *api.MixTask) {
			x.Sources[0] = source("a", fullGas, -1, -1)
			x.Sources[1] = source("", air, 1, 1)
		}, api.ErrSum},
		{func(x *api.MixTask) { x.Sources[1] = source("b", fullGas, -1, -1) }, api.ErrSum},
		{func(x *api.MixTask) { x.Sources[1] = source("b", wideGas, 1, 1) }, api.ErrRange},
		{func(x *api.MixTask) { x.Sources[1] = source("b", air, 0, 0) }, api.OK},
		{func(x *api.MixTask) { x.Sources[1] = source("b", air, 1000, 10000000) }, api.OK},
		{func(x *api.MixTask) { x.Sources[1] = source("b", air, -1, 0) }, api.ErrRange},
		{func(x *api.MixTask) { x.Sources[1] = source("b", air, 1001, 0) }, api.ErrRange},
		{func(x *api.MixTask) { x.Sources[1] = source("b", air, 0, -1) }, api.ErrRange},
		{func(x *api.MixTask) { x.Sources[1] = source("b", air, 0, 10000001) }, api.ErrRange},
		{func(x *api.MixTask) { x.Sources[0].Cents = -1; x.Sources[1].Name = "air" }, api.ErrRange},
		{func(x *api.MixTask) { x.Total = 1; x.Oxygen = api.Range{Lo: 0, Hi: 1000} }, api.OK},
		{func(x *api.MixTask) { x.Total = 0; x.Oxygen.Lo = 341 }, api.ErrRange},
		{func(x *api.MixTask) { x.Total = -1 }, api.ErrRange},
		{func(x *api.MixTask) { x.Total = 10000000 }, api.OK},
		{func(x *api.MixTask) { x.Total = 10000001; x.Oxygen.Lo = 341 }, api.ErrRange},
		{func(x *api.MixTask) { x.Begin = content(300, 200, 290) }, api.OK},
		{func(x *api.MixTask) { x.Begin = content(300, 200, 291) }, api.ErrRange},
		{func(x *api.MixTask) { x.Begin = content(0, 0, 791); x.Oxygen.Lo = 341 }, api.ErrRange},
		{func(x *api.MixTask) { x.Begin = content(10000000, 0, 0); x.Total = 10000000 }, api.OK},
		{func(x *api.MixTask) { x.Begin = content(10000001, 0, 0); x.Total = 10000001 }, api.ErrRange},
		{func(x *api.MixTask) { x.Oxygen = api.Range{Lo: 0, Hi: 1000} }, api.OK},
		{func(x *api.MixTask) { x.Oxygen = api.Range{Lo: 330, Hi: 330} }, api.OK},
		{func(x *api.MixTask) { x.Oxygen = api.Range{Lo: -1, Hi: 330}; x.Helium.Lo = 1 }, api.ErrRange},
		{func(x *api.MixTask) { x.Oxygen = api.Range{Lo: 330, Hi: 1001}; x.Helium.Lo = 1 }, api.ErrRange},
		{func(x *api.MixTask) { x.Oxygen = api.Range{Lo: 1001, Hi: 330}; x.Helium.Lo = 1 }, api.ErrRange},
		{func(x *api.MixTask) { x.Oxygen = api.Range{Lo: 330, Hi: -1}; x.Helium.Lo = 1 }, api.ErrRange},
		{func(x *api.MixTask) { x.Oxygen = api.Range{Lo: 331, Hi: 330}; x.Helium.Lo = -1 }, api.ErrOrder},
		{func(x *api.MixTask) { x.Helium = api.Range{Lo: 0, Hi: 1000} }, api.OK},
		{func(x *api.MixTask) { x.Helium = api.Range{Lo: -1, Hi: 0} }, api.ErrRange},
		{func(x *api.MixTask) { x.Helium = api.Range{Lo: 0, Hi: 1001} }, api.ErrRange},
		{func(x *api.MixTask) { x.Helium = api.Range{Lo: 1001, Hi: 1000} }, api.ErrRange},
		{func(x *api.MixTask) { x.Helium = api.Range{Lo: 1, Hi: 0} }, api.ErrOrder},
	} {
		a := question()
		test.spoil(&a.t)
		if e := mix.CheckTask(a.t); e != test.e {
			t.Errorf("task %d: error %d, want %d", i, e, test.e)
		}
		if test.e == api.OK {
			continue
		}
		a.plan, a.proof = api.MixPlan{}, api.MixProof{}
		plan, proof, e := mix.CheapestFill(a.t)
		refuse(t, "CheapestFill", plan, e, test.e)
		refuse(t, "its proof", proof, e, test.e)
		for _, name := range []string{"CheckPlan", "CheckProof", "Compare"} {
			if n, e := functions()[name](a); n != 0 || e != test.e {
				t.Errorf("%s of task %d: %v, error %d, want %d", name, i, n, e, test.e)
			}
		}
		n, e := mix.CheckRefusal(a.t, api.MixProof{})
		refuse(t, "CheckRefusal", n, e, test.e)
	}
	for c, e := range contentTests() {
		x := deal()
		x.Begin, x.Oxygen.Lo, x.Total = c, 341, 10000000
		if e == api.OK {
			e = api.ErrOrder
			if sumOf(c) > x.Total {
				e = api.ErrRange
			}
		}
		if e2 := mix.CheckTask(x); e2 != e {
			t.Errorf("Begin %+v: error %d, want %d", c, e2, e)
		}
	}
}

// five are as many sources as there may be.
func five() []api.MixSource {
	return []api.MixSource{{Name: "a", Gas: air, Cents: 2, Amount: 10000}, {Name: "b", Gas: oxygen, Cents: 50, Amount: 5000}, {Name: "c", Gas: helium, Cents: 90, Amount: 500},
		{Name: "d", Gas: nitro, Cents: 3, Amount: 700}, {Name: "e", Gas: tx1845, Cents: 40, Amount: 900}}
}

// P6.6: costs of plans, and what is wrong with plans, in the order of their errors.
func TestCheckPlan(t *testing.T) {
	for _, test := range []struct {
		parts []int
		den   int
		cost  int
		e     api.Errno
	}{
		{[]int{680, 110}, 1, 6860, api.OK},
		{[]int{2037, 333}, 3, 20724, api.OK},
		{[]int{680000000, 110000000}, 1000000, 6860000000, api.OK},
		{[]int{660, 130}, 1, 7820, api.OK},
		{nil, 0, 0, api.ErrShape},
		{[]int{790}, 0, 0, api.ErrShape},
		{[]int{680, 110, 0}, 1, 0, api.ErrShape},
		{[]int{-1, -1}, 0, 0, api.ErrRange},
		{[]int{680, 110}, -1, 0, api.ErrRange},
		{[]int{680, 110}, 1000001, 0, api.ErrRange},
		{[]int{-1, 791}, 1, 0, api.ErrStock},
		{[]int{791, -1}, 1, 0, api.ErrStock},
		{[]int{10001, 110}, 1, 0, api.ErrStock},
		{[]int{680, 5001}, 1, 0, api.ErrStock},
		{[]int{10000, 5000}, 1, 0, api.ErrSum},
		{[]int{20000, 10000}, 2, 0, api.ErrSum},
		{[]int{20001, 10000}, 2, 0, api.ErrStock},
		{[]int{20000, 10001}, 2, 0, api.ErrStock},
		{[]int{680, 111}, 1, 0, api.ErrSum},
		{[]int{680, 109}, 1, 0, api.ErrSum},
		{[]int{0, 0}, 1, 0, api.ErrSum},
		{[]int{681, 109}, 1, 0, api.ErrBreak},
		{[]int{659, 131}, 1, 0, api.ErrBreak},
		{[]int{2040, 330}, 3, 20580, api.OK},
		{[]int{2041, 329}, 3, 0, api.ErrBreak},
		{[]int{1980, 390}, 3, 23460, api.OK},
		{[]int{1979, 391}, 3, 0, api.ErrBreak},
	} {
		n, e := mix.CheckPlan(deal(), api.MixPlan{Parts: test.parts, Den: test.den})
		expect(t, flat(test), n, e, test.cost, test.e)
	}
	// What is there already counts: 100 of 790 with 30 oxygen, 20 helium and 50 nitrogen.
	x := deal()
	x.Begin, x.Helium = content(30, 20, 50), api.Range{Lo: 20, Hi: 26}
	n, e := mix.CheckPlan(x, api.MixPlan{Parts: []int{590, 100}, Den: 1})
	expect(t, "with Begin", n, e, 6180, api.OK)
	n, e = mix.CheckPlan(x, api.MixPlan{Parts: []int{680, 110}, Den: 1})
	refuse(t, "without Begin", n, e, api.ErrSum)
	x.Helium = api.Range{Lo: 26, Hi: 30}
	n, e = mix.CheckPlan(x, api.MixPlan{Parts: []int{590, 100}, Den: 1})
	refuse(t, "too little helium", n, e, api.ErrBreak)
	x.Helium = api.Range{Lo: 20, Hi: 25}
	n, e = mix.CheckPlan(x, api.MixPlan{Parts: []int{590, 100}, Den: 1})
	refuse(t, "too much helium", n, e, api.ErrBreak)
}

// P6.6: values of proofs, and what is wrong with proofs.
func TestCheckProof(t *testing.T) {
	for _, test := range []struct {
		p     api.MixProof
		value int
		e     api.Errno
	}{
		{proof(), 5419400, api.OK},
		{api.MixProof{Den: 1}, 0, api.OK},
		{api.MixProof{Whole: 2, Den: 1}, 1580, api.OK},
		// Air yields 1 more than its price, of which there is 10000.
		{api.MixProof{Whole: 3, Den: 1}, 2370 - 10000, api.OK},
		{api.MixProof{Whole: 51, Den: 1}, 40290 - 490000 - 5000, api.OK},
		{api.MixProof{Whole: -7, Den: 1000000}, -5530, api.OK},
		// Oxygen: 252800 to 268600; helium: 0 to 0.
		{api.MixProof{OxygenLow: 1, Den: 1000}, 252800, api.OK},
		{api.MixProof{OxygenHigh: 1, Den: 1}, -268600, api.OK},
		{api.MixProof{OxygenLow: 5, OxygenHigh: 5, HeliumLow: 7, HeliumHigh: 9, Den: 1}, 5 * (252800 - 268600), api.OK},
		{api.MixProof{Whole: 2, HeliumLow: 10000000, HeliumHigh: 3, Den: 1}, 1580, api.OK},
		{api.MixProof{Whole: 10000000000, Den: 1000000}, 790*10000000000 - 10000*9998000000 - 5000*9950000000, api.OK},
		{api.MixProof{Whole: -10000000000, OxygenLow: 10000000, Den: 1000000}, -790*10000000000 + 2528000000000, api.OK},
		{api.MixProof{}, 0, api.ErrRange},
		{api.MixProof{Den: -1}, 0, api.ErrRange},
		{api.MixProof{Den: 1000001}, 0, api.ErrRange},
		{api.MixProof{Den: 1, Whole: 10000000001}, 0, api.ErrRange},
		{api.MixProof{Den: 1, Whole: -10000000001}, 0, api.ErrRange},
		{api.MixProof{Den: 1, Whole: math.MinInt}, 0, api.ErrRange},
		{api.MixProof{Den: 1, OxygenLow: -1}, 0, api.ErrRange},
		{api.MixProof{Den: 1, OxygenLow: 10000001}, 0, api.ErrRange},
		{api.MixProof{Den: 1, OxygenHigh: -1}, 0, api.ErrRange},
		{api.MixProof{Den: 1, OxygenHigh: 10000001}, 0, api.ErrRange},
		{api.MixProof{Den: 1, HeliumLow: -1}, 0, api.ErrRange},
		{api.MixProof{Den: 1, HeliumLow: 10000001}, 0, api.ErrRange},
		{api.MixProof{Den: 1, HeliumHigh: -1}, 0, api.ErrRange},
		{api.MixProof{Den: 1, HeliumHigh: 10000001}, 0, api.ErrRange},
	} {
		n, e := mix.CheckProof(deal(), test.p)
		expect(t, flat(test), n, e, test.value, test.e)
		if test.e != api.OK {
			n, e = mix.CheckRefusal(deal(), test.p)
			refuse(t, "CheckRefusal", n, e, test.e)
			n, e = mix.Compare(deal(), best(), test.p)
			refuse(t, "Compare", n, e, test.e)
		}
	}
}

// P6.6: a proof refuses if its value at the price 0 is greater than 0.
func TestCheckRefusal(t *testing.T) {
	x := deal()
	x.Sources = x.Sources[:1]
	for _, test := range []struct {
		p     api.MixProof
		value int
		e     api.Errno
	}{
		{api.MixProof{Whole: -210, OxygenLow: 1, Den: 1}, 86900, api.OK},
		{api.MixProof{Whole: -210, OxygenLow: 1, Den: 1000000}, 86900, api.OK},
		{api.MixProof{Whole: -2100000, OxygenLow: 10000, Den: 7}, 869000000, api.OK},
		{api.MixProof{Whole: -319, OxygenLow: 1, Den: 1}, 790, api.OK},
		{api.MixProof{Whole: -320, OxygenLow: 1, Den: 1}, 0, api.ErrProof},
		{api.MixProof{Whole: -321, OxygenLow: 1, Den: 1}, 0, api.ErrProof},
		{api.MixProof{Whole: -209, OxygenLow: 1, Den: 1}, 252800 - 790*209 - 10000, api.OK},
		{api.MixProof{Whole: -200, OxygenLow: 1, Den: 1}, 0, api.ErrProof},
		{api.MixProof{Den: 1}, 0, api.ErrProof},
		// At its price air yields no more than it costs, at the price 0 it does.
		{api.MixProof{Whole: 2, Den: 1}, 0, api.ErrProof},
	} {
		n, e := mix.CheckRefusal(x, test.p)
		expect(t, flat(test), n, e, test.value, test.e)
	}
	// There is less of the source than is asked for.
	x.Total, x.Oxygen.Lo = 10001, 0
	n, e := mix.CheckRefusal(x, api.MixProof{Whole: 1, Den: 1})
	expect(t, "too little of a source", n, e, 1, api.OK)
	x.Total = 10000
	n, e = mix.CheckRefusal(x, api.MixProof{Whole: 1, Den: 1})
	refuse(t, "just enough of a source", n, e, api.ErrProof)
}

// P6.6: plans and proofs are compared exactly.
func TestCompare(t *testing.T) {
	for _, test := range []struct {
		plan  api.MixPlan
		proof api.MixProof
		want  int
		e     api.Errno
	}{
		{best(), proof(), 0, api.OK},
		{api.MixPlan{Parts: []int{680000000, 110000000}, Den: 1000000}, proof(), 0, api.OK},
		{api.MixPlan{Parts: []int{679, 111}, Den: 1}, proof(), 1, api.OK},
		{api.MixPlan{Parts: []int{679999999, 110000001}, Den: 1000000}, proof(), 1, api.OK},
		{best(), api.MixProof{Whole: -8500, OxygenLow: 48, Den: 791}, 1, api.OK},
		{best(), api.MixProof{Den: 1}, 1, api.OK},
		{best(), api.MixProof{Whole: -10000000000, Den: 1}, 1, api.OK},
		{api.MixPlan{}, api.MixProof{}, 0, api.ErrShape},
		{api.MixPlan{Parts: []int{681, 109}, Den: 1}, api.MixProof{}, 0, api.ErrBreak},
		{best(), api.MixProof{}, 0, api.ErrRange},
	} {
		n, e := mix.Compare(deal(), test.plan, test.proof)
		expect(t, flat(test), n, e, test.want, test.e)
	}
}

// cost returns the cost of a plan, divided by its Den, if it meets a task; it is worked out source by source in fractions.
func cost(x api.MixTask, p api.MixPlan) (*big.Rat, api.Errno) {
	all, ox, he, cents := rat(sumOf(x.Begin), 1), rat(x.Begin.Oxygen, 1), rat(x.Begin.Helium, 1), rat(0, 1)
	for i, s := range x.Sources {
		part := rat(p.Parts[i], p.Den)
		if part.Sign() < 0 || part.Cmp(rat(s.Amount, 1)) > 0 {
			return nil, api.ErrStock
		}
		all = sum(all, part)
		ox = sum(ox, product(part, rat(s.Gas.Oxygen, 1000)))
		he = sum(he, product(part, rat(s.Gas.Helium, 1000)))
		cents = sum(cents, product(part, rat(s.Cents, 1)))
	}
	total := rat(x.Total, 1)
	if all.Cmp(total) != 0 {
		return nil, api.ErrSum
	}
	for share, r := range map[*big.Rat]api.Range{quotient(ox, total): x.Oxygen, quotient(he, total): x.Helium} {
		if share.Cmp(rat(r.Lo, 1000)) < 0 || share.Cmp(rat(r.Hi, 1000)) > 0 {
			return nil, api.ErrBreak
		}
	}
	return cents, api.OK
}

// value returns the value of a proof at the prices of the sources times a factor, divided by its Den.
func value(x api.MixTask, p api.MixProof, factor int) *big.Rat {
	weight := func(n int) *big.Rat { return rat(n, p.Den) }
	missing := func(share, there int) *big.Rat { return rat(share*x.Total-1000*there, 1) }
	v := product(weight(p.Whole), rat(x.Total-sumOf(x.Begin), 1))
	v = sum(v, product(weight(p.OxygenLow), missing(x.Oxygen.Lo, x.Begin.Oxygen)), product(weight(p.HeliumLow), missing(x.Helium.Lo, x.Begin.Helium)))
	v = difference(v, sum(product(weight(p.OxygenHigh), missing(x.Oxygen.Hi, x.Begin.Oxygen)), product(weight(p.HeliumHigh), missing(x.Helium.Hi, x.Begin.Helium))))
	for _, s := range x.Sources {
		yield := sum(weight(p.Whole), product(rat(s.Gas.Oxygen, 1), weight(p.OxygenLow-p.OxygenHigh)), product(rat(s.Gas.Helium, 1), weight(p.HeliumLow-p.HeliumHigh)))
		if more := difference(yield, rat(factor*s.Cents, 1)); more.Sign() > 0 {
			v = difference(v, product(more, rat(s.Amount, 1)))
		}
	}
	return v
}

// task returns a task that is right, and often has a plan: sources are alike, on one line, or have odd amounts.
func (c chance) task() api.MixTask {
	g, h := c.gas(), c.gas()
	between := api.Gas{Oxygen: (g.Oxygen + h.Oxygen) / 2, Helium: (g.Helium + h.Helium) / 2}
	var x api.MixTask
	for i := range c.from(1, 5) {
		x.Sources = append(x.Sources, api.MixSource{Name: string(rune('a' + i)), Gas: []api.Gas{g, h, between, c.gas(), c.gas(), oxygen, helium}[c.Intn(7)], Cents: c.some(1000), Amount: c.some(10000000)})
	}
	x.Begin = c.content(c.Intn(2) * c.some(10000000))
	x.Total = max(1, sumOf(x.Begin)) + c.some(10000000-max(1, sumOf(x.Begin)))
	wide := c.some(1000)
	x.Oxygen.Lo = c.Intn(1001)
	x.Helium.Lo = c.Intn(1001 - x.Oxygen.Lo)
	if c.Intn(3) > 0 {
		// Ranges around a mixture of all that may be taken.
		all := x.Begin
		for _, s := range x.Sources {
			part := c.Intn(s.Amount + 1)
			all = plus(all, content(part*s.Gas.Oxygen/1000, part*s.Gas.Helium/1000, part*gasOf(s.Gas)[2]/1000))
		}
		if n := sumOf(all); n > 0 && n <= 10000000 {
			x.Total = n
			x.Oxygen.Lo, x.Helium.Lo = max(0, 1000*all.Oxygen/n-c.Intn(wide+1)), max(0, 1000*all.Helium/n-c.Intn(wide+1))
		}
	}
	x.Oxygen.Hi, x.Helium.Hi = min(1000, x.Oxygen.Lo+wide), min(1000, x.Helium.Lo+c.some(1000))
	return x
}

// plan returns any numbers for a task, which seldom meet it, but may nearly do so.
func (c chance) plan(x api.MixTask) api.MixPlan {
	p := api.MixPlan{Den: c.from(1, 1<<c.from(0, 19))}
	left := p.Den * (x.Total - sumOf(x.Begin))
	for i, s := range x.Sources {
		part := c.some(min(left, p.Den*s.Amount))
		if i == len(x.Sources)-1 && c.Intn(5) > 0 {
			part = left
		}
		left -= part
		p.Parts = append(p.Parts, part)
	}
	return p
}

func (c chance) proof() api.MixProof {
	p := api.MixProof{Whole: c.some(10000000000) * (1 - 2*c.Intn(2)), Den: c.from(1, 1<<c.from(0, 19))}
	for _, weight := range []*int{&p.OxygenLow, &p.OxygenHigh, &p.HeliumLow, &p.HeliumHigh} {
		*weight = c.Intn(2) * c.some(10000000)
	}
	return p
}

// P6.6, P6.9: plans and proofs by chance, held against the definitions; no plan compares as -1 to any proof.
func TestPlansAndProofsByChance(t *testing.T) {
	right, refusals := 0, 0
	for seed := range 20000 {
		c := newChance(seed)
		x := c.task()
		if e := mix.CheckTask(x); e != api.OK {
			t.Fatalf("%+v: error %d", x, e)
		}
		plan, proof := c.plan(x), c.proof()
		cents, wanted := cost(x, plan)
		n, e := mix.CheckPlan(x, plan)
		if wanted == api.OK {
			right++
			if e != api.OK || cents.Cmp(rat(n, plan.Den)) != 0 {
				t.Errorf("the cost of %+v for %+v: %d, error %d, want %v", plan, x, n, e, cents)
			}
		} else {
			refuse(t, "CheckPlan", n, e, wanted)
		}
		own, free := value(x, proof, 1), value(x, proof, 0)
		n, e = mix.CheckProof(x, proof)
		if e != api.OK || own.Cmp(rat(n, proof.Den)) != 0 {
			t.Errorf("the value of %+v for %+v: %d, error %d, want %v", proof, x, n, e, own)
		}
		n, e = mix.CheckRefusal(x, proof)
		if free.Sign() > 0 {
			refusals++
			if e != api.OK || free.Cmp(rat(n, proof.Den)) != 0 || wanted == api.OK {
				t.Errorf("%+v refuses %+v: %d, error %d, want %v", proof, x, n, e, free)
			}
		} else {
			refuse(t, "CheckRefusal", n, e, api.ErrProof)
		}
		n, e = mix.Compare(x, plan, proof)
		if wanted == api.OK {
			expect(t, "Compare", n, e, cents.Cmp(own), api.OK)
			if n < 0 {
				t.Errorf("%+v is cheaper than %+v says for %+v", plan, proof, x)
			}
		} else {
			refuse(t, "Compare", n, e, wanted)
		}
	}
	if right < 500 || refusals < 500 {
		t.Errorf("%d plans were right, %d proofs refused", right, refusals)
	}
}

// P6.6: a plan that is turned around has its parts in the order of the sources.
func TestOrderOfSources(t *testing.T) {
	x := deal()
	slices.Reverse(x.Sources)
	n, e := mix.CheckPlan(x, best())
	refuse(t, "parts of other sources", n, e, api.ErrBreak)
	n, e = mix.CheckPlan(x, api.MixPlan{Parts: []int{110, 680}, Den: 1})
	expect(t, "parts of these sources", n, e, 6860, api.OK)
}
