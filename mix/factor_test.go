package mix_test

import (
	"math/big"
	"slices"
	"testing"

	"shotline/api"
	"shotline/mix"
)

// table is rows of three numbers each: a pressure, and the ends of its factor.
func table(numbers ...int) []api.MixFactor {
	var t []api.MixFactor
	for row := range slices.Chunk(numbers, 3) {
		t = append(t, api.MixFactor{Pressure: row[0], Factor: api.Range{Lo: row[1], Hi: row[2]}})
	}
	return t
}

// P6.5: what is wrong with a table.
func TestCheckFactors(t *testing.T) {
	long := func(n int) []api.MixFactor {
		var l []api.MixFactor
		for i := range n {
			l = append(l, table(i, 500, 2000)...)
		}
		return l
	}
	for i, test := range []struct {
		t []api.MixFactor
		e api.Errno
	}{
		{nil, api.ErrShape},
		{factors(), api.OK},
		{table(0, 500, 500), api.OK},
		{table(400000, 2000, 2000), api.OK},
		{table(0, 1000, 1000, 1, 500, 2000, 400000, 700, 701), api.OK},
		{long(20), api.OK},
		{long(21), api.ErrLarge},
		{append(long(20), table(-1, 0, 0)...), api.ErrLarge},
		{table(-1, 1000, 1000), api.ErrRange},
		{table(400001, 1000, 1000), api.ErrRange},
		{table(0, 499, 1000), api.ErrRange},
		{table(0, 1000, 2001), api.ErrRange},
		{table(0, 2001, 2001), api.ErrRange},
		{table(0, 499, 499), api.ErrRange},
		{table(0, 1000, 499), api.ErrRange},
		{table(0, 2001, 1000), api.ErrRange},
		{table(0, 1001, 1000), api.ErrOrder},
		{table(5, 1000, 1000, 5, 1000, 1000), api.ErrOrder},
		{table(5, 1000, 1000, 4, 1000, 1000), api.ErrOrder},
		{table(5, 1000, 1000, 6, 1000, 1000, 5, 1000, 1000), api.ErrOrder},
		{table(5, 1000, 1000, 5, 499, 1000), api.ErrRange},
		{table(5, 1000, 1000, 4, 1001, 1000), api.ErrOrder},
		{table(5, 1001, 1000, -1, 1000, 1000), api.ErrOrder},
		{table(5, 1000, 1000, 5, 1000, 1000, -1, 1000, 1000), api.ErrOrder},
		{table(-1, 1000, 1000, 5, 1001, 1000), api.ErrRange},
	} {
		if e := mix.CheckFactors(test.t); e != test.e {
			t.Errorf("table %d: error %d, want %d", i, e, test.e)
		}
		if test.e == api.OK {
			continue
		}
		f, e := mix.FactorAt(test.t, 5)
		refuse(t, "FactorAt", f, e, test.e)
		f, e = mix.RealAmount(test.t, api.Range{Lo: 2, Hi: 1}, 0)
		refuse(t, "RealAmount", f, e, test.e)
	}
}

// P6.5: factors at pressures, between the rows and just at them.
func TestFactorAt(t *testing.T) {
	bent := table(10, 1000, 1010, 20, 900, 1005, 23, 900, 2000, 24, 1200, 1200)
	for _, test := range []struct {
		t        []api.MixFactor
		pressure int
		want     api.Range
		e        api.Errno
	}{
		{factors(), 0, api.Range{Lo: 1000, Hi: 1000}, api.OK},
		{factors(), 100000, api.Range{Lo: 1015, Hi: 1025}, api.OK},
		{factors(), 200000, api.Range{Lo: 1030, Hi: 1050}, api.OK},
		{factors(), 1, api.Range{Lo: 1000, Hi: 1001}, api.OK},
		{factors(), 199999, api.Range{Lo: 1029, Hi: 1050}, api.OK},
		{factors(), -1, api.Range{}, api.ErrRange},
		{factors(), 200001, api.Range{}, api.ErrRange},
		{bent, 9, api.Range{}, api.ErrRange},
		{bent, 10, api.Range{Lo: 1000, Hi: 1010}, api.OK},
		{bent, 11, api.Range{Lo: 990, Hi: 1010}, api.OK},
		{bent, 15, api.Range{Lo: 950, Hi: 1008}, api.OK},
		{bent, 19, api.Range{Lo: 910, Hi: 1006}, api.OK},
		{bent, 20, api.Range{Lo: 900, Hi: 1005}, api.OK},
		{bent, 21, api.Range{Lo: 900, Hi: 1337}, api.OK},
		{bent, 22, api.Range{Lo: 900, Hi: 1669}, api.OK},
		{bent, 23, api.Range{Lo: 900, Hi: 2000}, api.OK},
		{bent, 24, api.Range{Lo: 1200, Hi: 1200}, api.OK},
		{bent, 25, api.Range{}, api.ErrRange},
		{table(7, 800, 801), 7, api.Range{Lo: 800, Hi: 801}, api.OK},
		{table(7, 800, 801), 6, api.Range{}, api.ErrRange},
		{table(7, 800, 801), 8, api.Range{}, api.ErrRange},
		{table(0, 500, 2000, 400000, 2000, 2000), 399999, api.Range{Lo: 1999, Hi: 2000}, api.OK},
	} {
		got, e := mix.FactorAt(test.t, test.pressure)
		expect(t, flat(test), got, e, test.want, test.e)
	}
}

// P6.5: real amounts; a greater pressure may have the lesser amount.
func TestRealAmount(t *testing.T) {
	for _, test := range []struct {
		t         []api.MixFactor
		pressures api.Range
		volume    int
		want      api.Range
		e         api.Errno
	}{
		{factors(), api.Range{Lo: 100000, Hi: 100000}, 12000, api.Range{Lo: 1170731, Hi: 1182267}, api.OK},
		{factors(), api.Range{Lo: 0, Hi: 100000}, 12000, api.Range{Lo: 0, Hi: 1182267}, api.OK},
		{factors(), api.Range{Lo: 100000, Hi: 200000}, 12000, api.Range{Lo: 1170731, Hi: 2330098}, api.OK},
		{factors(), api.Range{Lo: 0, Hi: 0}, 1, api.Range{}, api.OK},
		{factors(), api.Range{Lo: 1, Hi: 1}, 1, api.Range{Lo: 0, Hi: 1}, api.OK},
		{factors(), api.Range{Lo: 0, Hi: 200000}, 1000000, api.Range{Lo: 0, Hi: 194174758}, api.OK},
		{table(400000, 500, 2000), api.Range{Lo: 400000, Hi: 400000}, 1000000, api.Range{Lo: 200000000, Hi: 800000000}, api.OK},
		// 100 at the factor 500 is 200 times the volume / 1000, 101 at 2000 is 50.5.
		{table(100, 500, 500, 101, 2000, 2000), api.Range{Lo: 100, Hi: 101}, 1000, api.Range{Lo: 50, Hi: 200}, api.OK},
		{table(100, 500, 600, 101, 1900, 2000), api.Range{Lo: 100, Hi: 101}, 1000, api.Range{Lo: 50, Hi: 200}, api.OK},
		{factors(), api.Range{Lo: 2, Hi: 1}, 12000, api.Range{}, api.ErrOrder},
		{factors(), api.Range{Lo: 200002, Hi: 200001}, 0, api.Range{}, api.ErrOrder},
		{factors(), api.Range{Lo: -1, Hi: 200000}, 12000, api.Range{}, api.ErrRange},
		{factors(), api.Range{Lo: 0, Hi: 200001}, 12000, api.Range{}, api.ErrRange},
		{factors(), api.Range{Lo: 200001, Hi: 200001}, 12000, api.Range{}, api.ErrRange},
		{factors(), api.Range{Lo: 0, Hi: 0}, 0, api.Range{}, api.ErrRange},
		{factors(), api.Range{Lo: 0, Hi: 0}, -1, api.Range{}, api.ErrRange},
		{factors(), api.Range{Lo: 0, Hi: 0}, 1000001, api.Range{}, api.ErrRange},
	} {
		got, e := mix.RealAmount(test.t, test.pressures, test.volume)
		expect(t, flat(test), got, e, test.want, test.e)
	}
}

// P6.5: factors and real amounts by chance, held against exact lines.
func TestFactorsByChance(t *testing.T) {
	c := newChance(1)
	for range 3000 {
		var f []api.MixFactor
		pressure := c.some(1000)
		for range c.from(1, 20) {
			lo := c.from(500, 2000)
			f = append(f, table(pressure, lo, c.from(lo, 2000))...)
			pressure += c.from(1, 1<<c.from(1, 14))
		}
		last := f[len(f)-1].Pressure
		p := api.Range{Lo: c.from(f[0].Pressure, last)}
		p.Hi = c.from(p.Lo, last)
		volume := c.from(1, 1000000)
		var ends []*big.Rat
		for _, pressure := range []int{p.Lo, p.Hi} {
			want := factorOf(f, pressure)
			got, e := mix.FactorAt(f, pressure)
			expect(t, flat(f), got, e, want, api.OK)
			for _, z := range []int{want.Lo, want.Hi} {
				ends = append(ends, quotient(product(rat(pressure, 1), rat(volume, 1)), rat(z, 1)))
			}
		}
		slices.SortFunc(ends, (*big.Rat).Cmp)
		got, e := mix.RealAmount(f, p, volume)
		expect(t, flat(f), got, e, api.Range{Lo: down(ends[0]), Hi: up(ends[3])}, api.OK)
	}
}

// factorOf returns the factor at a pressure: a line goes on from a row by its slope.
func factorOf(t []api.MixFactor, pressure int) api.Range {
	for i, row := range t {
		if row.Pressure == pressure {
			return row.Factor
		}
		if row.Pressure < pressure && pressure < t[i+1].Pressure {
			part := rat(pressure-row.Pressure, t[i+1].Pressure-row.Pressure)
			lo := sum(rat(row.Factor.Lo, 1), product(part, rat(t[i+1].Factor.Lo-row.Factor.Lo, 1)))
			hi := sum(rat(row.Factor.Hi, 1), product(part, rat(t[i+1].Factor.Hi-row.Factor.Hi, 1)))
			return api.Range{Lo: down(lo), Hi: up(hi)}
		}
	}
	panic("no such pressure")
}
