package tissue_test

import (
	"math"
	"testing"

	"shotline/api"
	"shotline/tissue"
)

// P3.5: limits at pressures.
func TestLimitAt(t *testing.T) {
	c := first()[0]
	plain := api.Compartment{Nitrogen: 1, Helium: 1, Slope: 1000}
	steep := api.Compartment{Nitrogen: 100000, Helium: 100000, Base: 10000, Slope: 10000}
	tests := []struct {
		c                api.Compartment
		pressure, factor int
		want             api.Range
	}{
		{c, 1000, 1000, exactly(2000000)},
		{c, 1000, 500, exactly(1500000)},
		{c, 1000, 0, exactly(1000000)},
		{plain, 777, 333, exactly(777000)},
		{plain, 31100, 1000, exactly(31100000)},
		{steep, 31100, 1000, exactly(321000000)},
		{steep, 400, 0, exactly(400000)},
		{api.Compartment{Nitrogen: 1, Helium: 1, Base: 0, Slope: 1001}, 401, 1, api.Range{Lo: 401000, Hi: 401001}}, // 401000.401
		{api.Compartment{Nitrogen: 1, Helium: 1, Base: 0, Slope: 1001}, 1000, 1, exactly(1000001)},
		{api.Compartment{Nitrogen: 1, Helium: 1, Base: 7, Slope: 1999}, 999, 999, api.Range{Lo: 2002995, Hi: 2002996}}, // 2002995.999,
	}
	for _, test := range tests {
		r, e := tissue.LimitAt(test.c, test.pressure, test.factor)
		expect(t, flat(test), r, e, test.want, api.OK)
	}
	for _, c := range append(three(), c, plain, steep) {
		for pressure := 400; pressure <= 31100; pressure += 614 {
			for factor := 0; factor <= 1000; factor += 25 {
				r, e := tissue.LimitAt(c, pressure, factor)
				expect(t, flat(c), r, e, rounded(limit(c, pressure, factor)), api.OK)
			}
		}
	}
	for _, c := range wrongCompartments() {
		r, e := tissue.LimitAt(c, 1000, 500)
		refuse(t, flat(c), r, e, api.ErrRange)
	}
	for _, wrong := range [][2]int{{399, 0}, {31101, 0}, {400, -1}, {400, 1001}} {
		r, e := tissue.LimitAt(c, wrong[0], wrong[1])
		refuse(t, flat(wrong), r, e, api.ErrRange)
	}
}

// P3.5: whether loads keep limits at a pressure.
func TestKeptAt(t *testing.T) {
	const limit = 2000000 // of the first table at 1000 with the factor 1000
	tests := []struct {
		l    api.TissueLoad
		want int
	}{
		{load(0, 0, 0, 0), api.AnswerYes},
		{load(limit, limit, 0, 0), api.AnswerYes},
		{load(0, 0, limit, limit), api.AnswerYes},
		{load(0, limit-1, 0, 1), api.AnswerYes},
		{load(0, limit, 0, 1), api.AnswerMaybe},
		{load(limit, limit, 0, 1), api.AnswerMaybe},
		{load(1, limit, limit-1, limit), api.AnswerMaybe},
		{load(limit+1, limit+1, 0, 0), api.AnswerNo},
		{load(1, 1, limit, limit), api.AnswerNo},
		{load(limit, limit, 1, 2*limit), api.AnswerNo},
	}
	for _, test := range tests {
		k, e := tissue.KeptAt(first(), []api.TissueLoad{test.l}, [2]int{1000, 1000})
		expect(t, flat(test.l), k, e, test.want, api.OK)
		table := append(first(), first()...)
		for _, l := range [][]api.TissueLoad{{test.l, load(0, 0, 0, 0)}, {load(0, 0, 0, 0), test.l}} {
			k, e = tissue.KeptAt(table, l, [2]int{1000, 1000})
			expect(t, flat(l), k, e, test.want, api.OK)
		}
		for _, l := range [][]api.TissueLoad{{test.l, load(limit, limit, 1, 1)}, {load(limit, limit, 1, 1), test.l}} {
			k, e = tissue.KeptAt(table, l, [2]int{1000, 1000})
			expect(t, flat(l), k, e, api.AnswerNo, api.OK)
		}
	}
	// A limit that is not whole: 401000.401 thousandths of a millibar.
	odd := []api.Compartment{{Nitrogen: 1, Helium: 1, Slope: 1001}}
	for n, want := range map[int]int{401000: api.AnswerYes, 401001: api.AnswerNo} {
		k, e := tissue.KeptAt(odd, nitrogen(n, n), [2]int{401, 1})
		expect(t, flat(n), k, e, want, api.OK)
	}
	someTasks(2000, func(x api.TissueTask, _ int) {
		k, e := tissue.KeptAt(x.Table, x.Loads, [2]int{x.Leg.From, x.Factor})
		expect(t, flat(x), k, e, keeps(x.Table, x.Loads, x.Leg.From, x.Factor), api.OK)
	})
}

// P3.5: errors of KeptAt and Ceiling.
func TestWrongKeptAt(t *testing.T) {
	tests := []struct {
		table []api.Compartment
		loads []api.TissueLoad
		at    [2]int
		want  api.Errno
	}{
		{nil, nil, [2]int{}, api.ErrShape},
		{wrongCompartments()[:1], nil, [2]int{}, api.ErrRange},
		{first(), nil, [2]int{}, api.ErrShape},
		{first(), nitrogen(1, 0), [2]int{399, -1}, api.ErrOrder},
		{first(), nitrogen(1, 1), [2]int{399, 0}, api.ErrRange},
		{first(), nitrogen(1, 1), [2]int{31101, 0}, api.ErrRange},
		{first(), nitrogen(1, 1), [2]int{1000, -1}, api.ErrRange},
		{first(), nitrogen(1, 1), [2]int{1000, 1001}, api.ErrRange},
	}
	for _, test := range tests {
		k, e := tissue.KeptAt(test.table, test.loads, test.at)
		refuse(t, flat(test), k, e, test.want)
		if test.at[1] != 0 || test.want != api.ErrRange {
			r, e := tissue.Ceiling(test.table, test.loads, test.at[1])
			refuse(t, flat(test), r, e, test.want)
		}
	}
	for _, at := range [][2]int{{400, 0}, {31100, 1000}} {
		k, e := tissue.KeptAt(first(), nitrogen(1, 1), at)
		expect(t, flat(at), k, e, api.AnswerYes, api.OK)
	}
}

// P3.5: ceilings, as in the examples, and at the ends.
func TestCeiling(t *testing.T) {
	const most = 100000000
	plain := []api.Compartment{{Nitrogen: 1, Helium: 1, Slope: 1000}}
	tests := []struct {
		table  []api.Compartment
		loads  []api.TissueLoad
		factor int
		want   api.Range
	}{
		{first(), nitrogen(1925230, 1925230), 1000, exactly(951)},
		{first(), nitrogen(1925230, 1925230), 500, exactly(1341)},
		{first(), nitrogen(1925230, 1925230), 0, exactly(1926)},
		{first(), nitrogen(2000000, 2000000), 1000, exactly(1000)},
		{first(), nitrogen(2000000, 2000001), 1000, api.Range{Lo: 1000, Hi: 1001}},
		{first(), nitrogen(1999999, 2000000), 1000, exactly(1000)},
		{first(), nitrogen(500000, 500000), 1000, exactly(0)},
		{first(), nitrogen(499999, 500001), 1000, api.Range{Lo: 0, Hi: 1}},
		{first(), nitrogen(0, 0), 1000, exactly(0)},
		{first(), nitrogen(0, 0), 0, exactly(0)},
		{first(), []api.TissueLoad{load(1000000, 1000000, 925230, 1925230)}, 500, api.Range{Lo: 1341, Hi: 2141}},
		{plain, nitrogen(777000, 777001), 333, api.Range{Lo: 777, Hi: 778}},
		{plain, []api.TissueLoad{load(0, most, 0, most)}, 1000, api.Range{Lo: 0, Hi: 200000}},
		{plain, []api.TissueLoad{load(most, most, most, most)}, 0, exactly(200000)},
	}
	for _, test := range tests {
		r, e := tissue.Ceiling(test.table, test.loads, test.factor)
		expect(t, flat(test), r, e, test.want, api.OK)
	}
	r, e := tissue.Ceiling(first(), nitrogen(1, 1), 1001)
	refuse(t, "a wrong factor", r, e, api.ErrRange)
}

// P3.5: ceilings are the least pressures from 0 on; P3.9: KeptAt agrees; a greater factor makes none greater.
func TestCeilings(t *testing.T) {
	someTasks(3000, func(x api.TissueTask, _ int) {
		r, e := tissue.Ceiling(x.Table, x.Loads, x.Factor)
		if e != api.OK {
			t.Fatal(x, e)
		}
		low := func(pressure int) bool { return keeps(x.Table, x.Loads, pressure, x.Factor) != api.AnswerNo }
		high := func(pressure int) bool { return keeps(x.Table, x.Loads, pressure, x.Factor) == api.AnswerYes }
		if !low(r.Lo) || !high(r.Hi) || r.Lo > 0 && low(r.Lo-1) || r.Hi > 0 && high(r.Hi-1) || r.Lo < 0 {
			t.Errorf("%v: the ceiling %v", x, r)
		}
		if r.Hi >= 400 && r.Hi <= 31100 {
			k, e := tissue.KeptAt(x.Table, x.Loads, [2]int{r.Hi, x.Factor})
			expect(t, flat(x), k, e, api.AnswerYes, api.OK)
		}
		if r.Lo > 400 && r.Lo <= 31101 {
			k, e := tissue.KeptAt(x.Table, x.Loads, [2]int{r.Lo - 1, x.Factor})
			expect(t, flat(x), k, e, api.AnswerNo, api.OK)
		}
		last := api.Range{Lo: math.MaxInt, Hi: math.MaxInt}
		for factor := 0; factor <= 1000; factor += 50 {
			r, _ := tissue.Ceiling(x.Table, x.Loads, factor)
			if r.Lo > last.Lo || r.Hi > last.Hi || r.Lo > r.Hi {
				t.Errorf("%v: the ceiling %v with the factor %d, behind %v", x, r, factor, last)
			}
			last = r
		}
	})
}
