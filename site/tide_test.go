package site_test

import (
	"math"
	"slices"
	"testing"

	"shotline/api"
	"shotline/site"
)

// wrongWaves are waves with an error, and right ones beside them.
func wrongWaves() (wrong, right []api.TideWave) {
	for _, n := range []int{math.MinInt, -1, 100001, math.MaxInt} {
		wrong = append(wrong, api.TideWave{Height: n, Period: 5}, api.TideWave{Height: 5, Period: n})
	}
	wrong = append(wrong, api.TideWave{}, api.TideWave{Period: 5, Phase: -1}, api.TideWave{Period: 5, Phase: 4096}, api.TideWave{Period: 5, Phase: math.MaxInt})
	right = []api.TideWave{{Period: 1}, {Height: 100000, Period: 1}, {Period: 100000}, {Period: 1, Phase: 4095}, {Height: 100000, Period: 100000, Phase: 4095}}
	return wrong, right
}

// P8.2: what is wrong with a table, in the order of its errors.
func TestCheckTide(t *testing.T) {
	wrong, right := wrongWaves()
	ten := slices.Repeat(right[:1], 10)
	type test struct {
		mean  int
		waves []api.TideWave
		e     api.Errno
	}
	tests := []test{
		{0, nil, api.OK},
		{100000, ten, api.OK},
		{-100000, right, api.OK},
		{0, append(right[:1:1], ten...), api.ErrLarge},
		{0, slices.Repeat(wrong[:1], 11), api.ErrLarge},
		{0, slices.Repeat(wrong[:1], 10), api.ErrRange},
	}
	for _, mean := range []int{math.MinInt, -100001, 100001, math.MaxInt} {
		tests = append(tests, test{mean, nil, api.ErrRange}, test{mean, append(ten, ten...), api.ErrRange})
	}
	for _, w := range wrong {
		for at := range right {
			tests = append(tests, test{0, slices.Insert(slices.Clone(right), at, w), api.ErrRange})
		}
	}
	for _, test := range tests {
		table := api.TideTable{Mean: test.mean, Waves: test.waves}
		expect(t, "CheckTide of "+flat(table), nil, site.CheckTide(table), nil, test.e)
		_, e := site.LevelAt(table, 0)
		expect(t, "LevelAt of "+flat(table), nil, e, nil, test.e)
	}
}

// P8.2: the angles of waves.
func TestAngles(t *testing.T) {
	for _, test := range []struct {
		w      api.TideWave
		minute int
		want   api.Range
	}{
		{api.TideWave{Period: 8192}, 0, exactly(0)},
		{api.TideWave{Period: 8192}, 1, from(0, 1)},
		{api.TideWave{Period: 8192}, 2, exactly(1)},
		{api.TideWave{Period: 8192}, 3, from(1, 2)},
		{api.TideWave{Period: 8192}, 8191, from(4095, 4096)},
		{api.TideWave{Period: 8192}, 8192, exactly(0)},
		{api.TideWave{Period: 8192, Phase: 4095}, 1, from(4095, 4096)},
		{api.TideWave{Period: 8192, Phase: 4095}, 2, exactly(0)},
		{api.TideWave{Period: 4096, Phase: 4095}, 0, exactly(4095)},
		{api.TideWave{Period: 4096, Phase: 4095}, 1, exactly(0)},
		{api.TideWave{Period: 1}, 1000000, exactly(0)},
		{api.TideWave{Period: 1, Phase: 9}, 999999, exactly(9)},
		{api.TideWave{Period: 3}, 1, from(1365, 1366)},
		{api.TideWave{Period: 100000}, 1000000, exactly(0)},
		{api.TideWave{Period: 100000}, 999999, from(4095, 4096)},
	} {
		r, e := site.AngleAt(test.w, test.minute)
		expect(t, "AngleAt "+flat(test), r, e, test.want, api.OK)
	}
	wrong, right := wrongWaves()
	for _, minute := range []int{math.MinInt, -1, 1000001, math.MaxInt} {
		for _, w := range append(wrong, right...) {
			r, e := site.AngleAt(w, minute)
			refuse(t, "AngleAt", r, e, api.ErrRange)
		}
	}
	for _, w := range wrong {
		r, e := site.AngleAt(w, 1)
		refuse(t, "AngleAt of "+flat(w), r, e, api.ErrRange)
	}
	c := newChance(1)
	for range 20000 {
		w, minute := c.wave(), c.upTo(1000000)
		r, e := site.AngleAt(w, minute)
		expect(t, "AngleAt "+flat(w)+flat(minute), r, e, angleOf(w, minute), api.OK)
		// Between whole angles the range has two neighbours; in both cases it is in one turn.
		if width := r.Hi - r.Lo; r.Lo < 0 || r.Lo > 4095 || width < 0 || width > 1 {
			t.Errorf("the angle of %+v at %d is %v", w, minute, r)
		}
	}
}

// P8.2: the levels of the examples, and of tables that are all mean.
func TestLevels(t *testing.T) {
	none := []api.TideWave{{Period: 1}, {Period: 7, Phase: 4095}}
	for _, test := range []struct {
		table  api.TideTable
		minute int
		want   api.Range
	}{
		{tide(), 0, exactly(300)},
		{tide(), 512, from(270, 271)},
		{tide(), 1024, exactly(200)},
		{tide(), 1536, from(129, 130)},
		{tide(), 2048, exactly(100)},
		{tide(), 3072, exactly(200)},
		{tide(), 4096, exactly(300)},
		{api.TideTable{}, 0, exactly(0)},
		{api.TideTable{Mean: -100000}, 1000000, exactly(-100000)},
		{api.TideTable{Mean: 77, Waves: none}, 6, exactly(77)},
		{api.TideTable{Mean: -5, Waves: []api.TideWave{{Height: 1, Period: 8192}}}, 1, from(-5, -4)},
		{api.TideTable{Waves: []api.TideWave{{Height: 100000, Period: 1}, {Height: 100000, Period: 1, Phase: 2048}}}, 5, exactly(0)},
		{api.TideTable{Mean: 100000, Waves: slices.Repeat([]api.TideWave{{Height: 100000, Period: 2}}, 10)}, 2, exactly(1100000)},
		{api.TideTable{Mean: -100000, Waves: slices.Repeat([]api.TideWave{{Height: 100000, Period: 2}}, 10)}, 3, exactly(-1100000)},
		{ripple(), 999999, exactly(0)},
		{ripple(), 1000000, exactly(200)},
	} {
		r, e := site.LevelAt(test.table, test.minute)
		expect(t, "LevelAt "+flat(test), r, e, test.want, api.OK)
	}
	for _, minute := range []int{math.MinInt, -1, 1000001, math.MaxInt} {
		r, e := site.LevelAt(tide(), minute)
		refuse(t, "LevelAt "+flat(minute), r, e, api.ErrRange)
		r, e = site.LevelAt(api.TideTable{Waves: make([]api.TideWave, 11)}, minute)
		refuse(t, "LevelAt "+flat(minute), r, e, api.ErrLarge)
	}
}

// P8.2: levels by the definition; they enclose what they stand for; a wave of no height changes nothing.
func TestLevelsByChance(t *testing.T) {
	c := newChance(2)
	for range 4000 {
		table, minute := c.table(), c.upTo(1000000)
		r, e := site.LevelAt(table, minute)
		expect(t, "LevelAt "+flat(table)+flat(minute), r, e, levelOf(t, table, minute), api.OK)
		x := float64(table.Mean)
		for _, w := range table.Waves {
			x += float64(w.Height) * math.Cos(2*math.Pi*(float64(w.Phase)/4096+float64(minute%w.Period)/float64(w.Period)))
		}
		if float64(r.Lo) > x+1e-4 || float64(r.Hi) < x-1e-4 {
			t.Errorf("the level of %+v at %d is %v, which does not enclose %f", table, minute, r, x)
		}
		if len(table.Waves) < 10 {
			table.Waves = slices.Insert(table.Waves, c.Intn(len(table.Waves)+1), api.TideWave{Period: c.from(1, 100000), Phase: c.Intn(4096)})
			same, e := site.LevelAt(table, minute)
			expect(t, "LevelAt with no wave more", same, e, r, api.OK)
		}
	}
}

// P8.10: the levels of one wave, one period apart, are the same.
func TestPeriods(t *testing.T) {
	c := newChance(3)
	for range 4000 {
		table, minute := api.TideTable{Mean: c.from(-100, 100), Waves: []api.TideWave{c.wave()}}, c.upTo(900000)
		r, e := site.LevelAt(table, minute)
		later, e2 := site.LevelAt(table, minute+table.Waves[0].Period)
		expect(t, "LevelAt "+flat(table)+flat(minute), r, e, later, e2)
	}
}

// wrongSpans are spans with their errors.
func wrongSpans() map[api.Range]api.Errno {
	return map[api.Range]api.Errno{
		from(-1, 5):                        api.ErrRange,
		from(math.MinInt, math.MaxInt):     api.ErrRange,
		from(5, 1000001):                   api.ErrRange,
		from(1000001, 5):                   api.ErrRange,
		from(5, -1):                        api.ErrRange,
		from(math.MaxInt, 0):               api.ErrRange,
		from(5, 4):                         api.ErrOrder,
		from(1000000, 0):                   api.ErrOrder,
		from(0, 3000):                      api.ErrLarge,
		from(997000, 1000000):              api.ErrLarge,
		from(0, 1000000):                   api.ErrLarge,
		from(0, 2999):                      api.OK,
		from(997001, 1000000):              api.OK,
		exactly(0):                         api.OK,
		exactly(1000000):                   api.OK,
		from(math.MinInt+5, math.MinInt+1): api.ErrRange,
	}
}

// P8.3: the first minute at which the least number is greatest.
func TestHighest(t *testing.T) {
	two := api.TideTable{Waves: []api.TideWave{{Height: 100, Period: 60, Phase: 3072}, {Height: 30, Period: 20, Phase: 3072}}}
	for _, test := range []struct {
		table api.TideTable
		span  api.Range
		want  int
	}{
		{tide(), from(4090, 4100), 4096},
		{tide(), from(0, 2999), 0},
		{tide(), from(100, 2047), 100},
		{tide(), from(2048, 2048), 2048},
		{ripple(), from(5, 15), 6},
		{ripple(), from(999999, 1000000), 1000000},
		{api.TideTable{Mean: 5}, from(7, 3006), 7},
		{two, from(0, 119), levelTop(t, two, from(0, 119))},
	} {
		n, e := site.Highest(test.table, test.span)
		expect(t, "Highest "+flat(test), n, e, test.want, api.OK)
	}
	for span, wanted := range wrongSpans() {
		n, e := site.Highest(ripple(), span)
		want := 0
		if wanted == api.OK {
			want = levelTop(t, ripple(), span)
		}
		expect(t, "Highest "+flat(span), n, e, want, wanted)
	}
	c := newChance(4)
	for range 100 {
		table, first := c.current(), c.upTo(990000)
		span := from(first, first+c.Intn(400))
		n, e := site.Highest(table, span)
		expect(t, "Highest "+flat(table)+flat(span), n, e, levelTop(t, table, span), api.OK)
	}
}

// levelTop returns the first minute of a span at which the least number of the level is greatest.
func levelTop(t *testing.T, table api.TideTable, span api.Range) int {
	t.Helper()
	best, most := -1, math.MinInt
	for minute := span.Lo; minute <= span.Hi; minute++ {
		if least := levelOf(t, table, minute).Lo; least > most {
			best, most = minute, least
		}
	}
	return best
}
