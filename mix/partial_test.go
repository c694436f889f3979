package mix_test

import (
	"math/big"
	"testing"

	"shotline/api"
	"shotline/mix"
)

// P6.4: what must be added.
func TestPartialFill(t *testing.T) {
	type added = [3]api.Range
	exactly := func(oxygen, helium, top int) added {
		return added{{Lo: oxygen, Hi: oxygen}, {Lo: helium, Hi: helium}, {Lo: top, Hi: top}}
	}
	for _, test := range []struct {
		begin    api.MixContent
		gas, top api.Gas
		total    int
		want     added
		e        api.Errno
	}{
		{content(0, 0, 0), nx32, air, 1000, added{{Lo: 139, Hi: 140}, {}, {Lo: 860, Hi: 861}}, api.OK},
		{content(0, 0, 0), air, air, 1000, exactly(0, 0, 1000), api.OK},
		{content(0, 0, 0), api.Gas{Oxygen: 200}, air, 1000, added{}, api.ErrNone},
		{content(0, 0, 0), api.Gas{Oxygen: 209, Helium: 0}, air, 1, added{}, api.ErrNone},
		// The ends are less than 1, but not less than 0: 0.2 - 0.21 * 0.75 / 0.79.
		{content(0, 0, 0), api.Gas{Oxygen: 200, Helium: 50}, air, 1, added{{Lo: 0, Hi: 1}, {Lo: 0, Hi: 1}, {Lo: 0, Hi: 1}}, api.OK},
		{content(210, 0, 790), air, air, 1000, exactly(0, 0, 0), api.OK},
		{content(211, 0, 789), air, air, 1000, added{}, api.ErrNone},
		{content(209, 1, 790), air, air, 1000, added{}, api.ErrNone},
		{content(210, 1, 789), air, air, 1000, added{}, api.ErrNone},
		{content(0, 0, 0), air, air, 0, exactly(0, 0, 0), api.OK},
		{content(0, 0, 0), oxygen, air, 7, exactly(7, 0, 0), api.OK},
		{content(0, 0, 0), helium, air, 7, exactly(0, 7, 0), api.OK},
		{content(0, 0, 0), tx1845, nitro, 1000, exactly(180, 450, 370), api.OK},
		{content(80, 50, 70), tx1845, nitro, 1000, exactly(100, 400, 300), api.OK},
		{content(181, 0, 0), tx1845, nitro, 1000, added{}, api.ErrNone},
		{content(0, 451, 0), tx1845, nitro, 1000, added{}, api.ErrNone},
		{content(0, 0, 371), tx1845, nitro, 1000, added{}, api.ErrNone},
		{content(180, 450, 370), tx1845, nitro, 1000, exactly(0, 0, 0), api.OK},
		// A thousandth of one too much nitrogen is too much, too.
		{content(0, 0, 1), api.Gas{Oxygen: 1}, air, 1, added{}, api.ErrNone},
		// A top gas with helium brings it in.
		{content(0, 0, 0), tx1845, api.Gas{Oxygen: 90, Helium: 540}, 1000, added{}, api.ErrNone},
		{content(0, 0, 0), tx1845, api.Gas{Oxygen: 180, Helium: 450}, 1000, exactly(0, 0, 1000), api.OK},
		{content(0, 0, 0), tx1845, api.Gas{Oxygen: 180, Helium: 80}, 1000, exactly(90, 410, 500), api.OK},
		{content(0, 0, 0), api.Gas{Oxygen: 500, Helium: 499}, api.Gas{Oxygen: 500, Helium: 499}, 1000000000, exactly(0, 0, 1000000000), api.OK},
		{content(0, 0, 0), api.Gas{Oxygen: 500, Helium: 498}, api.Gas{Oxygen: 250, Helium: 249}, 1000000000, added{{Lo: 499001996, Hi: 499001997}, {Lo: 497005988, Hi: 497005989}, {Lo: 3992015, Hi: 3992016}}, api.OK},
		{content(0, 0, 0), air, oxygen, 1000, added{}, api.ErrZero},
		{content(0, 0, 0), oxygen, api.Gas{Oxygen: 500, Helium: 500}, 0, added{}, api.ErrZero},
		{content(1001, 0, 0), air, air, 1000, added{}, api.ErrRange},
		{content(500, 400, 101), air, oxygen, 1000, added{}, api.ErrRange},
		{content(0, 0, 0), air, air, -1, added{}, api.ErrRange},
		{content(0, 0, 0), air, air, 1000000001, added{}, api.ErrRange},
		{content(0, 0, 0), air, oxygen, 1000000001, added{}, api.ErrRange},
		{content(0, 0, 0), fullGas, wideGas, -1, added{}, api.ErrSum},
		{content(0, 0, 0), wideGas, fullGas, -1, added{}, api.ErrRange},
		{content(0, 0, 0), air, fullGas, -1, added{}, api.ErrSum},
		{content(-1, 0, 0), fullGas, fullGas, 7, added{}, api.ErrRange},
	} {
		got, e := mix.PartialFill(test.begin, api.MixWanted{Gas: test.gas, Top: test.top, Total: test.total})
		expect(t, flat(test), got, e, test.want, test.e)
	}
	for c, e := range contentTests() {
		got, e2 := mix.PartialFill(c, api.MixWanted{Gas: tx1845, Top: oxygen, Total: 1000000000})
		if e == api.OK {
			e = api.ErrZero
		}
		refuse(t, flat(c), got, e2, e)
	}
}

// P6.4, P6.10: what is named adds up to the gas, exactly ahead of rounding, and within a few units behind it.
func TestPartialFillByChance(t *testing.T) {
	c := newChance(1)
	found := 0
	for range 30000 {
		begin := c.content(1 << c.from(0, 20))
		w := api.MixWanted{Gas: c.gas(), Top: c.gas(), Total: sumOf(begin) + c.some(1000000000-sumOf(begin))}
		if c.Intn(2) == 0 {
			w.Top = air
		}
		// What begins as a share of the gas has a way on more often.
		if c.Intn(2) == 0 {
			whole := content(w.Total*w.Gas.Oxygen/1000, w.Total*w.Gas.Helium/1000, w.Total*gasOf(w.Gas)[2]/1000)
			begin = shareOf(whole, c.Intn(sumOf(whole)+1))
		}
		got, e := mix.PartialFill(begin, w)
		top := gasOf(w.Top)
		if top[2] == 0 {
			refuse(t, flat(w), got, e, api.ErrZero)
			continue
		}
		want, gas := [3]*big.Rat{}, gasOf(w.Gas)
		need := func(i int) *big.Rat { return difference(rat(w.Total*gas[i], 1000), rat(partsOf(begin)[i], 1)) }
		want[2] = quotient(need(2), rat(top[2], 1000))
		for i := range 2 {
			want[i] = difference(need(i), product(want[2], rat(top[i], 1000)))
		}
		if want[0].Sign() < 0 || want[1].Sign() < 0 || want[2].Sign() < 0 {
			refuse(t, flat(w), got, e, api.ErrNone)
			continue
		}
		found++
		expect(t, flat(w), got, e, [3]api.Range{rounded(want[0]), rounded(want[1]), rounded(want[2])}, api.OK)
		checkMade(t, begin, w, [3]int{got[0].Lo, got[1].Lo, got[2].Lo})
		checkMade(t, begin, w, [3]int{got[0].Hi, got[1].Hi, got[2].Hi})
	}
	if found < 3000 {
		t.Errorf("only %d had a way", found)
	}
}

// checkMade checks that a content, with so much oxygen, helium and top gas added, has the gas that is wanted within 3 units.
func checkMade(t *testing.T, begin api.MixContent, w api.MixWanted, added [3]int) {
	t.Helper()
	added[0], added[1] = 1000*added[0], 1000*added[1]
	for i, n := range partsOf(begin) {
		has := 1000*n + added[2]*gasOf(w.Top)[i]
		if i < 2 {
			has += added[i]
		}
		if off := has - w.Total*gasOf(w.Gas)[i]; max(off, -off) > 3000 {
			t.Errorf("%+v of %+v with %v: %d thousandths too much of part %d", w, begin, added, off, i)
		}
	}
}

// P6.4: whether a content is that of a gas.
func TestMatches(t *testing.T) {
	for _, test := range []struct {
		c         api.MixContent
		g         api.Gas
		tolerance int
		is        bool
		e         api.Errno
	}{
		{content(212, 0, 788), air, 0, false, api.OK},
		{content(212, 0, 788), air, 1, false, api.OK},
		{content(212, 0, 788), air, 2, true, api.OK},
		{content(208, 0, 792), air, 1, false, api.OK},
		{content(208, 0, 792), air, 2, true, api.OK},
		{content(210, 2, 788), air, 1, false, api.OK},
		{content(210, 2, 788), air, 2, true, api.OK},
		{content(180, 448, 372), tx1845, 1, false, api.OK},
		{content(180, 448, 372), tx1845, 2, true, api.OK},
		{content(178, 452, 370), tx1845, 2, true, api.OK},
		{content(177, 453, 370), tx1845, 2, false, api.OK},
		{content(178, 453, 369), tx1845, 2, false, api.OK},
		{content(177, 452, 371), tx1845, 2, false, api.OK},
		{content(180, 450, 370), tx1845, 0, true, api.OK},
		// The nitrogen does not count by itself.
		{content(220, 460, 320), tx1845, 40, true, api.OK},
		// 2 of 9 is 222.2.
		{content(2, 0, 7), air, 12, false, api.OK},
		{content(2, 0, 7), air, 13, true, api.OK},
		{content(1000000000, 0, 0), oxygen, 0, true, api.OK},
		{content(0, 1000000000, 0), oxygen, 999, false, api.OK},
		{content(0, 1000000000, 0), oxygen, 1000, true, api.OK},
		{content(0, 0, 1), nitro, 0, true, api.OK},
		{content(0, 0, 0), nitro, 0, false, api.ErrZero},
		{content(0, 0, 0), nitro, -1, false, api.ErrZero},
		{content(0, 0, 0), fullGas, -1, false, api.ErrSum},
		{content(0, 0, 1), wideGas, -1, false, api.ErrRange},
		{content(-1, 0, 1), fullGas, 0, false, api.ErrRange},
		{content(0, 0, 1), nitro, -1, false, api.ErrRange},
		{content(0, 0, 1), nitro, 1001, false, api.ErrRange},
	} {
		is, e := mix.Matches(test.c, test.g, test.tolerance)
		expect(t, flat(test), is, e, test.is, test.e)
	}
	for c, e := range contentTests() {
		is, e2 := mix.Matches(c, wideGas, 0)
		refuse(t, flat(c), is, e2, api.ErrRange)
		if e != api.OK {
			is, e2 = mix.Matches(c, fullGas, -1)
			refuse(t, flat(c), is, e2, e)
		}
	}
	c := newChance(1)
	for range 20000 {
		x, g, tolerance := c.content(min(1000000000, 1<<c.from(0, 30))), c.gas(), c.some(1000)
		is, e := mix.Matches(x, g, tolerance)
		if sumOf(x) == 0 {
			refuse(t, flat(x), is, e, api.ErrZero)
			continue
		}
		want := true
		for i := range 2 {
			off := difference(rat(partsOf(x)[i], sumOf(x)), rat(gasOf(g)[i], 1000))
			want = want && off.Abs(off).Cmp(rat(tolerance, 1000)) <= 0
		}
		expect(t, flat(x), is, e, want, api.OK)
	}
}

// P6.10: a vessel into which a gas came alone matches it within the rounding.
func TestAGasAlone(t *testing.T) {
	c := newChance(1)
	for range 3000 {
		g, amount := c.gas(), c.from(1000, 1<<c.from(10, 28))
		v := []api.MixVessel{{Name: "a", Volume: 1000000, Most: 400000}}
		l := []api.MixFill{in(0, "a", g, amount)}
		contents, e := mix.Contents(v, l)
		if e != api.OK {
			t.Fatalf("%+v: error %d", l, e)
		}
		is, e := mix.Matches(contents[0], g, 1)
		expect(t, flat(l), is, e, true, api.OK)
		told, e := mix.MixtureOf(v, l, "a")
		for part, r := range map[int]api.Range{g.Oxygen: told.Oxygen, g.Helium: told.Helium} {
			if e != api.OK || r.Hi-r.Lo > 1 || part < r.Lo || part > r.Hi {
				t.Errorf("%+v: %+v, error %d", l, told, e)
			}
		}
		// More than so much of the gas needs no other one.
		if g.Oxygen+g.Helium < 1000 {
			_, e := mix.PartialFill(api.MixContent{}, api.MixWanted{Gas: g, Top: g, Total: amount})
			expect(t, "PartialFill", 0, e, 0, api.OK)
		}
	}
}
