package site_test

import (
	"fmt"
	"math"
	"math/big"
	"math/rand"
	"reflect"
	"slices"
	"testing"

	"shotline/api"
	"shotline/site"
)

// The tests use the exported functions alone. What they expect is found in the words of the definitions: cosines and levels
// by exact numbers, windows minute by minute, ways by all ways that there are.

var extremes = []int{math.MinInt, -10000001, -100001, -1, 0, 1, 2, 3, 7, 8, 11, 12, 13, 60, 199, 200, 201, 1023, 1024, 2048, 3000, 4095, 4096,
	10000, 10001, 100000, 100001, 999999, 1000000, 1000001, 10000000, 10000001, 1 << 40, math.MaxInt}

func from(lo, hi int) api.Range { return api.Range{Lo: lo, Hi: hi} }

func exactly(n int) api.Range { return from(n, n) }

// list are the windows of pairs of minutes.
func list(minutes ...int) []api.Range {
	var l []api.Range
	for pair := range slices.Chunk(minutes, 2) {
		l = append(l, from(pair[0], pair[1]))
	}
	return l
}

// comb are n windows of so many minutes, the first one from a minute on, each one so far behind the one before.
func comb(n, first, minutes, step int) []api.Range {
	var l []api.Range
	for i := range n {
		l = append(l, from(first+i*step, first+i*step+minutes-1))
	}
	return l
}

// tide and flow are the tables of the examples.
func tide() api.TideTable {
	return api.TideTable{Mean: 200, Waves: []api.TideWave{{Height: 100, Period: 4096}}}
}

func flow() api.TideTable {
	return api.TideTable{Waves: []api.TideWave{{Height: 1000, Period: 4096}}}
}

// ripple is 200 at even minutes, and 0 at odd ones.
func ripple() api.TideTable {
	return api.TideTable{Mean: 100, Waves: []api.TideWave{{Height: 100, Period: 2}}}
}

// forecast and shelter are those of the examples.
func forecast() []api.Wind { return []api.Wind{{From: 0, Force: 10}, {From: 50, Sector: 4, Force: 30}} }

func shelter() api.SiteShelter { return api.SiteShelter{Most: [8]int{0: 20, 4: 25}} }

// harbour, tour and stops are the chart, the run and its windows of the examples.
func harbour() api.SiteChart {
	return api.SiteChart{Places: []string{"a", "b", "c"}, Minutes: [][]int{{0, 10, 30}, {10, 0, 10}, {30, 10, 0}}}
}

func tour() api.BoatRun {
	return api.BoatRun{Begin: 100, Places: []int{0, 1, 2}, Stay: []int{0, 5, 5}}
}

func stops() [][]api.Range {
	return [][]api.Range{list(90, 100), list(110, 120), list(120, 130)}
}

// flat is a value in which a nil list and an empty one are the same.
func flat(x any) string { return fmt.Sprintf("%+v", x) }

func expect(t *testing.T, what string, got any, e api.Errno, want any, wanted api.Errno) {
	t.Helper()
	if e != wanted || flat(got) != flat(want) || reflect.TypeOf(got) != reflect.TypeOf(want) {
		t.Errorf("%s: %+v, error %d; want %+v, error %d", what, got, e, want, wanted)
	}
}

// refuse checks that there is this error, beside a zero value.
func refuse[T any](t *testing.T, what string, got T, e, wanted api.Errno) {
	t.Helper()
	var zero T
	expect(t, what, got, e, zero, wanted)
}

// asked is all that the functions are asked with.
type asked struct {
	angle         int
	t             api.TideTable
	w             api.TideWave
	minute, limit int
	a             api.SlackAsk
	span          api.Range
	l, l2         []api.Range
	begin, length int
	winds         []api.Wind
	s             api.SiteShelter
	c             api.SiteChart
	from, to      int
	r             api.BoatRun
	windows       [][]api.Range
}

// question is what every function answers.
func question() asked {
	return asked{
		angle: 512, t: tide(), w: api.TideWave{Height: 5, Period: 8192, Phase: 7}, minute: 20, limit: 200,
		a: api.SlackAsk{Limit: 250, Span: from(0, 2000)}, span: from(10, 100),
		l: list(0, 10, 20, 30), l2: list(5, 25, 40, 40), begin: 8, length: 4,
		winds: forecast(), s: shelter(), c: harbour(), from: 0, to: 2, r: tour(), windows: stops(),
	}
}

// functions call the functions of the package but for Parse.
func functions() map[string]func(a asked) (any, api.Errno) {
	return map[string]func(a asked) (any, api.Errno){
		"CosOf":        func(a asked) (any, api.Errno) { return told(site.CosOf(a.angle)) },
		"CheckTide":    func(a asked) (any, api.Errno) { return nil, site.CheckTide(a.t) },
		"AngleAt":      func(a asked) (any, api.Errno) { return told(site.AngleAt(a.w, a.minute)) },
		"LevelAt":      func(a asked) (any, api.Errno) { return told(site.LevelAt(a.t, a.minute)) },
		"SlackAt":      func(a asked) (any, api.Errno) { return told(site.SlackAt(a.t, a.minute, a.limit)) },
		"SlackWindows": func(a asked) (any, api.Errno) { return told(site.SlackWindows(a.t, a.a)) },
		"Highest":      func(a asked) (any, api.Errno) { return told(site.Highest(a.t, a.span)) },
		"CheckWindows": func(a asked) (any, api.Errno) { return nil, site.CheckWindows(a.l) },
		"Meet":         func(a asked) (any, api.Errno) { return told(site.Meet(a.l, a.l2)) },
		"Join":         func(a asked) (any, api.Errno) { return told(site.Join(a.l, a.l2)) },
		"Longer":       func(a asked) (any, api.Errno) { return told(site.Longer(a.l, a.length)) },
		"FirstFit":     func(a asked) (any, api.Errno) { return told(site.FirstFit(a.l, a.begin, a.length)) },
		"CheckWinds":   func(a asked) (any, api.Errno) { return nil, site.CheckWinds(a.winds) },
		"WindAt":       func(a asked) (any, api.Errno) { return told(site.WindAt(a.winds, a.minute)) },
		"CalmWindows":  func(a asked) (any, api.Errno) { return told(site.CalmWindows(a.s, a.winds, a.span)) },
		"CheckChart":   func(a asked) (any, api.Errno) { return nil, site.CheckChart(a.c) },
		"Way": func(a asked) (any, api.Errno) {
			l, _, e := site.Way(a.c, a.from, a.to)
			return l, e
		},
		"its minutes": func(a asked) (any, api.Errno) {
			_, n, e := site.Way(a.c, a.from, a.to)
			return n, e
		},
		"RunTimes": func(a asked) (any, api.Errno) { return told(site.RunTimes(a.c, a.r)) },
		"RunFits":  func(a asked) (any, api.Errno) { return told(site.RunFits(a.c, a.r, a.windows)) },
		"Print":    func(a asked) (any, api.Errno) { return told(site.Print(a.t)) },
	}
}

func told[T any](x T, e api.Errno) (any, api.Errno) { return x, e }

// isZero tells whether a value is the zero value of its type, or an empty list.
func isZero(x any) bool {
	v := reflect.ValueOf(x)
	return !v.IsValid() || v.IsZero() || v.Kind() == reflect.Slice && v.Len() == 0
}

// rounded returns a fraction rounded down, and rounded up.
func rounded(x *big.Rat) api.Range {
	n, rest := new(big.Int).DivMod(x.Num(), x.Denom(), new(big.Int))
	return from(int(n.Int64()), int(n.Int64())+rest.Sign())
}

func rat(num, den int) *big.Rat { return big.NewRat(int64(num), int64(den)) }

// angleOf returns the angle of a wave at a minute, by its definition.
func angleOf(w api.TideWave, minute int) api.Range {
	x := new(big.Rat).Add(rat(w.Phase, 1), rat(4096*minute, w.Period))
	turns := rounded(new(big.Rat).Quo(x, rat(4096, 1))).Lo
	return rounded(x.Sub(x, rat(4096*turns, 1)))
}

// levelOf returns the level of a table at a minute, by its definition.
func levelOf(t *testing.T, x api.TideTable, minute int) api.Range {
	t.Helper()
	least, most := rat(x.Mean, 1), rat(x.Mean, 1)
	for _, w := range x.Waves {
		angle := angleOf(w, minute)
		a, b := cosineOf(t, angle.Lo%4096), cosineOf(t, angle.Hi%4096)
		least.Add(least, new(big.Rat).Mul(rat(w.Height, 1), rat(min(a.Lo, b.Lo), 100000000)))
		most.Add(most, new(big.Rat).Mul(rat(w.Height, 1), rat(max(a.Hi, b.Hi), 100000000)))
	}
	return from(rounded(least).Lo, rounded(most).Hi)
}

// cosineOf returns a cosine, which has tests of its own.
func cosineOf(t *testing.T, angle int) api.Range {
	t.Helper()
	r, e := site.CosOf(angle)
	expect(t, "CosOf", nil, e, nil, api.OK)
	return r
}

// slackOf answers whether a level is slack, number by number.
func slackOf(level api.Range, limit int) int {
	slack, not := false, false
	for n := level.Lo; n <= level.Hi; n++ {
		is := n >= -limit && n <= limit
		slack, not = slack || is, not || !is
	}
	switch {
	case !not:
		return api.AnswerYes
	case !slack:
		return api.AnswerNo
	}
	return api.AnswerMaybe
}

// windowsWhere returns the windows of the minutes of a span for which a condition holds, or ErrLarge for too many.
func windowsWhere(span api.Range, is func(minute int) bool) ([]api.Range, api.Errno) {
	var l []api.Range
	for minute := span.Lo; minute <= span.Hi; {
		end := minute
		for end <= span.Hi && is(end) {
			end++
		}
		if end > minute {
			l = append(l, from(minute, end-1))
		}
		minute = end + 1
	}
	if len(l) > 60 {
		return nil, api.ErrLarge
	}
	return l, api.OK
}

// inOne tells whether a minute is in one of some windows.
func inOne(l []api.Range, minute int) bool {
	for _, w := range l {
		if w.Lo <= minute && minute <= w.Hi {
			return true
		}
	}
	return false
}

// lieIn tells whether each of some windows lies in one of others.
func lieIn(inner, outer []api.Range) bool {
	return !slices.ContainsFunc(inner, func(w api.Range) bool {
		return !slices.ContainsFunc(outer, func(o api.Range) bool { return o.Lo <= w.Lo && w.Hi <= o.Hi })
	})
}

// chance makes values of all kinds.
type chance struct{ *rand.Rand }

func newChance(seed int) chance { return chance{rand.New(rand.NewSource(int64(seed)))} }

func (c chance) from(least, most int) int { return least + c.Intn(most-least+1) }

// upTo returns a number up to most, of any size.
func (c chance) upTo(most int) int { return min(most, c.Intn(1<<c.from(0, 24))) }

func (c chance) wave() api.TideWave {
	return api.TideWave{Height: c.upTo(100000), Period: max(1, c.upTo(100000)), Phase: c.Intn(4096)}
}

func (c chance) table() api.TideTable {
	t := api.TideTable{Mean: c.upTo(100000) - c.upTo(100000)}
	for range c.Intn(11) {
		t.Waves = append(t.Waves, c.wave())
	}
	return t
}

// current returns a table that is slack now and then.
func (c chance) current() api.TideTable {
	t := api.TideTable{Mean: c.from(-50, 50)}
	for range c.from(1, 3) {
		t.Waves = append(t.Waves, api.TideWave{Height: c.from(0, 1000), Period: c.from(30, 900), Phase: c.Intn(4096)})
	}
	return t
}

// windows returns at most so many windows, from a minute on.
func (c chance) windows(most, first int) []api.Range {
	var l []api.Range
	for range c.Intn(most + 1) {
		first += c.Intn(6)
		end := first + c.Intn(8)
		l = append(l, from(first, end))
		first = end + 2
	}
	return l
}

// chart returns a chart of some places, with ways that may be one-way, of no time, or missing.
func (c chance) chart(places int) api.SiteChart {
	var x api.SiteChart
	gaps, most := c.Intn(11), []int{0, 1, 3, 30, 10000}[c.Intn(5)]
	for i := range places {
		x.Places = append(x.Places, string(rune('a'+i)))
		var row []int
		for k := range places {
			minutes := c.Intn(most + 1)
			if c.Intn(10) < gaps {
				minutes = -1
			}
			if i == k {
				minutes = 0
			}
			row = append(row, minutes)
		}
		x.Minutes = append(x.Minutes, row)
	}
	return x
}

// roomy returns a list with room for more.
func roomy[T any](l []T) []T {
	return append(make([]T, 0, len(l)+5), l...)
}
