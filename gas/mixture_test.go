package gas_test

import (
	"math/big"
	"slices"
	"testing"

	"shotline/api"
	"shotline/gas"
)

var (
	example = []api.GasPart{{Gas: oxygen, Amount: 1000}, {Gas: air, Amount: 3000}}
	twelve  = slices.Repeat([]api.GasPart{{Gas: tx1845, Amount: api.MaxAmount}}, api.MaxGasParts)
)

// wrongParts are parts with the error that comes first.
var wrongParts = []struct {
	name string
	l    []api.GasPart
	want api.Errno
}{
	{"no parts", nil, api.ErrZero},
	{"an empty list", []api.GasPart{}, api.ErrZero},
	{"amounts of 0", []api.GasPart{{Gas: air}, {Gas: oxygen}}, api.ErrZero},
	{"thirteen", append(slices.Clone(twelve), api.GasPart{Gas: wideGas, Amount: -1}), api.ErrLarge},
	{"thirteen of 0", make([]api.GasPart, 13), api.ErrLarge},
	{"a wide gas", []api.GasPart{{Gas: wideGas, Amount: 1}}, api.ErrRange},
	{"a gas ahead of its amount", []api.GasPart{{Gas: fullGas, Amount: -1}}, api.ErrSum},
	{"an amount ahead of the next gas", []api.GasPart{{Gas: air, Amount: -1}, {Gas: fullGas, Amount: 1}}, api.ErrRange},
	{"a gas ahead of the next amount", []api.GasPart{{Gas: fullGas, Amount: 1}, {Gas: air, Amount: -1}}, api.ErrSum},
	{"too great an amount", []api.GasPart{{Gas: air, Amount: 1}, {Gas: air, Amount: api.MaxAmount + 1}}, api.ErrRange},
	{"a wrong gas with the amount 0", []api.GasPart{{Gas: air, Amount: 1}, {Gas: fullGas}}, api.ErrSum},
	{"a wrong gas of none", []api.GasPart{{Gas: air}, {Gas: fullGas}}, api.ErrSum},
}

// P1.5: the number of parts, each part, and that there is something.
func TestCheckParts(t *testing.T) {
	for _, c := range wrongParts {
		if e := gas.CheckParts(c.l); e != c.want {
			t.Errorf("CheckParts, %s: %d, want %d", c.name, e, c.want)
		}
		m, e := gas.Mixed(c.l)
		refuse(t, "Mixed, "+c.name, m, e, c.want)
		g, e := gas.Nearest(c.l)
		refuse(t, "Nearest, "+c.name, g, e, c.want)
	}
	for _, l := range [][]api.GasPart{example, twelve, {{Gas: air}, {Gas: air, Amount: 1}}, {{Gas: air, Amount: 1}, {Gas: air}}} {
		if e := gas.CheckParts(l); e != api.OK {
			t.Errorf("CheckParts(%v): %d", l, e)
		}
	}
}

// P1.5: fractions in lowest terms, up to the greatest ones that are small.
func TestMixed(t *testing.T) {
	rest := api.GasPart{Gas: helium, Amount: api.MaxAmount - 1}
	for _, c := range []struct {
		name   string
		l      []api.GasPart
		want   [3]api.Frac
		wanted api.Errno
	}{
		{"the example", example, [3]api.Frac{{Num: 163, Den: 400}, {Num: 0, Den: 1}, {Num: 237, Den: 400}}, api.OK},
		{"one part", twelve[:1], [3]api.Frac{{Num: 9, Den: 50}, {Num: 9, Den: 20}, {Num: 37, Den: 100}}, api.OK},
		{"all parts", twelve, [3]api.Frac{{Num: 9, Den: 50}, {Num: 9, Den: 20}, {Num: 37, Den: 100}}, api.OK},
		{"one gas", []api.GasPart{{Gas: oxygen, Amount: 7}}, [3]api.Frac{{Num: 1, Den: 1}, {Num: 0, Den: 1}, {Num: 0, Den: 1}}, api.OK},
		{"a part of 0", []api.GasPart{{Gas: oxygen, Amount: 7}, {Gas: helium}}, [3]api.Frac{{Num: 1, Den: 1}, {Num: 0, Den: 1}, {Num: 0, Den: 1}}, api.OK},
		{"as small as may be", []api.GasPart{{Gas: oxygen, Amount: 1}, rest},
			[3]api.Frac{{Num: 1, Den: 1000000000}, {Num: 999999999, Den: 1000000000}, {Num: 0, Den: 1}}, api.OK},
		{"a little more", []api.GasPart{{Gas: oxygen, Amount: 2}, rest}, [3]api.Frac{}, api.ErrLarge},
		{"large without oxygen", []api.GasPart{{Gas: api.Gas{}, Amount: 2}, rest}, [3]api.Frac{}, api.ErrLarge},
		{"large without helium", []api.GasPart{{Gas: api.Gas{}, Amount: 2}, {Gas: oxygen, Amount: api.MaxAmount - 1}}, [3]api.Frac{}, api.ErrLarge},
		{"large in nitrogen alone", []api.GasPart{{Gas: oxygen, Amount: 40009}, {Gas: helium, Amount: 40013},
			{Gas: api.Gas{}, Amount: 600800095}, {Gas: api.Gas{}, Amount: 1000000000}}, [3]api.Frac{}, api.ErrLarge},
	} {
		kept := slices.Clone(c.l)
		m, e := gas.Mixed(c.l)
		expect(t, "Mixed, "+c.name, m, e, c.want, c.wanted)
		if !slices.Equal(kept, c.l) {
			t.Errorf("Mixed, %s: the argument is changed", c.name)
		}
	}
}

// P1.5: a half is rounded up, and the helium has what the oxygen leaves.
func TestNearest(t *testing.T) {
	half := func(a, b api.Gas) []api.GasPart { return []api.GasPart{{Gas: a, Amount: 3}, {Gas: b, Amount: 3}} }
	for _, c := range []struct {
		name string
		l    []api.GasPart
		want api.Gas
	}{
		{"the example", example, api.Gas{Oxygen: 408}},
		{"one part", twelve[:1], tx1845},
		{"all parts", twelve, tx1845},
		{"two halves of all", half(api.Gas{Oxygen: 501, Helium: 499}, api.Gas{Oxygen: 500, Helium: 500}), api.Gas{Oxygen: 501, Helium: 499}},
		{"two halves with room", half(api.Gas{Oxygen: 100, Helium: 100}, api.Gas{Oxygen: 101, Helium: 101}), api.Gas{Oxygen: 101, Helium: 101}},
		{"two halves with one left", half(api.Gas{Oxygen: 500, Helium: 499}, api.Gas{Oxygen: 499, Helium: 500}), api.Gas{Oxygen: 500, Helium: 500}},
		{"a half of helium", half(api.Gas{Helium: 1}, api.Gas{}), api.Gas{Helium: 1}},
		{"less than a half", []api.GasPart{{Gas: api.Gas{Oxygen: 1}, Amount: 499999999}, {Gas: api.Gas{}, Amount: 500000001}}, api.Gas{}},
		{"more than a half", []api.GasPart{{Gas: api.Gas{Oxygen: 1}, Amount: 500000001}, {Gas: api.Gas{}, Amount: 499999999}}, api.Gas{Oxygen: 1}},
		{"a large fraction", []api.GasPart{{Gas: oxygen, Amount: 2}, {Gas: helium, Amount: api.MaxAmount - 1}}, helium},
		{"a part of 0", []api.GasPart{{Gas: air, Amount: 1}, {Gas: oxygen}}, air},
	} {
		kept := slices.Clone(c.l)
		g, e := gas.Nearest(c.l)
		expect(t, "Nearest, "+c.name, g, e, c.want, api.OK)
		if !slices.Equal(kept, c.l) {
			t.Errorf("Nearest, %s: the argument is changed", c.name)
		}
	}
}

// mixtures are mixtures of many gases and amounts.
func mixtures() [][]api.GasPart {
	var list [][]api.GasPart
	next := 1
	for n := range 60 {
		var l []api.GasPart
		for range n%api.MaxGasParts + 1 {
			next = next * 16807 % 2147483647
			o := next % 1001
			l = append(l, api.GasPart{Gas: api.Gas{Oxygen: o, Helium: next / 1001 % (1001 - o)}, Amount: next % 97})
		}
		list = append(list, append(l[:len(l)-1], api.GasPart{Gas: l[len(l)-1].Gas, Amount: 1 + n}))
	}
	return list
}

// exactly returns the oxygen, the helium and the nitrogen of a mixture.
func exactly(l []api.GasPart) [3]*big.Rat {
	parts := [3]*big.Rat{new(big.Rat), new(big.Rat), new(big.Rat)}
	whole := new(big.Rat)
	for _, p := range l {
		whole.Add(whole, big.NewRat(int64(p.Amount), 1))
		for i, n := range [3]int{p.Gas.Oxygen, p.Gas.Helium, nitrogen(p.Gas)} {
			parts[i].Add(parts[i], big.NewRat(int64(n)*int64(p.Amount), 1000))
		}
	}
	for _, x := range parts {
		x.Quo(x, whole)
	}
	return parts
}

// P1.5: fractions and nearest gases of many mixtures.
func TestMixedExactly(t *testing.T) {
	for _, l := range mixtures() {
		var want [3]api.Frac
		x := exactly(l)
		for i := range x {
			want[i] = api.Frac{Num: int(x[i].Num().Int64()), Den: int(x[i].Denom().Int64())}
		}
		m, e := gas.Mixed(l)
		expect(t, call("Mixed", l), m, e, want, api.OK)
		o, h := rounded(x[0]), rounded(x[1])
		g, e := gas.Nearest(l)
		expect(t, call("Nearest", l), g, e, api.Gas{Oxygen: o, Helium: min(h, 1000-o)}, api.OK)
	}
}

// rounded returns a fraction in thousandths, as a whole number, a half rounded up.
func rounded(x *big.Rat) int {
	y := new(big.Rat).Mul(x, big.NewRat(1000, 1))
	y.Add(y, big.NewRat(1, 2))
	return int(new(big.Int).Div(y.Num(), y.Denom()).Int64())
}

// P1.7: the parts of a mixture add up to 1, and each lies between the least and the greatest of its parts.
func TestMixedBetween(t *testing.T) {
	for _, l := range mixtures() {
		m, e := gas.Mixed(l)
		if e != api.OK {
			t.Fatalf("Mixed(%v): error %d", l, e)
		}
		sum := new(big.Rat)
		for i, f := range m {
			x := big.NewRat(int64(f.Num), int64(f.Den))
			sum.Add(sum, x)
			least, greatest := 1000, 0
			for _, p := range l {
				if n := [3]int{p.Gas.Oxygen, p.Gas.Helium, nitrogen(p.Gas)}[i]; p.Amount > 0 {
					least, greatest = min(least, n), max(greatest, n)
				}
			}
			if x.Cmp(big.NewRat(int64(least), 1000)) < 0 || x.Cmp(big.NewRat(int64(greatest), 1000)) > 0 {
				t.Errorf("Mixed(%v): %v", l, m)
			}
		}
		if sum.Cmp(big.NewRat(1, 1)) != 0 {
			t.Errorf("Mixed(%v): %v are together %v", l, m, sum)
		}
	}
}

// P1.9: amounts mixed in another order are the same mixture.
func TestMixedInAnotherOrder(t *testing.T) {
	for _, l := range append(mixtures(), example, twelve) {
		m, e := gas.Mixed(l)
		g, f := gas.Nearest(l)
		for turn := range l {
			other := slices.Concat(l[turn:], l[:turn])
			slices.Reverse(other)
			again, e2 := gas.Mixed(other)
			expect(t, call("Mixed", other), again, e2, m, e)
			near, f2 := gas.Nearest(other)
			expect(t, call("Nearest", other), near, f2, g, f)
		}
	}
}
