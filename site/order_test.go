package site_test

import (
	"slices"
	"testing"

	"shotline/api"
)

// fault is something wrong with what is asked, and its error.
type fault struct {
	name  string
	spoil func(a *asked)
	e     api.Errno
}

func faults() []fault {
	return []fault{
		{"angle", func(a *asked) { a.angle = 4096 }, api.ErrRange},
		{"mean", func(a *asked) { a.t.Mean = 100001 }, api.ErrRange},
		{"many waves", func(a *asked) { a.t.Waves = make([]api.TideWave, 11) }, api.ErrLarge},
		{"wave of the table", func(a *asked) { a.t.Waves[0].Period = 0 }, api.ErrRange},
		{"wave", func(a *asked) { a.w.Phase = 4096 }, api.ErrRange},
		{"minute", func(a *asked) { a.minute = -1 }, api.ErrRange},
		{"limit", func(a *asked) { a.limit = -1 }, api.ErrRange},
		{"limit of the ask", func(a *asked) { a.a.Limit = 10000001 }, api.ErrRange},
		{"span of the ask", func(a *asked) { a.a.Span = from(10, 9) }, api.ErrOrder},
		{"many windows", func(a *asked) { a.t, a.a = ripple(), api.SlackAsk{Span: from(0, 150)} }, api.ErrLarge},
		{"ends", func(a *asked) { a.span.Hi = -1 }, api.ErrRange},
		{"turned", func(a *asked) { a.span = from(9, 8) }, api.ErrOrder},
		{"long", func(a *asked) { a.span = from(0, 3000) }, api.ErrLarge},
		{"windows", func(a *asked) { a.l[1].Lo = a.l[0].Hi + 1 }, api.ErrClash},
		{"other windows", func(a *asked) { a.l2[0] = from(9, 8) }, api.ErrOrder},
		{"many of both", func(a *asked) { a.l, a.l2 = comb(40, 0, 3, 4), comb(40, 2, 3, 4) }, api.ErrLarge},
		{"many of one", func(a *asked) { a.l, a.l2 = comb(31, 0, 1, 4), comb(31, 2, 1, 4) }, api.ErrLarge},
		{"begin", func(a *asked) { a.begin = 1000001 }, api.ErrRange},
		{"length", func(a *asked) { a.length = 0 }, api.ErrRange},
		{"no fit", func(a *asked) { a.length = 12 }, api.ErrNone},
		{"shelter", func(a *asked) { a.s.Most[3] = 201 }, api.ErrRange},
		{"no winds", func(a *asked) { a.winds = nil }, api.ErrShape},
		{"winds", func(a *asked) { a.winds[1].From = a.winds[0].From }, api.ErrOrder},
		{"early", func(a *asked) { a.winds[0].From = 21 }, api.ErrEarly},
		{"many places", func(a *asked) { a.c.Places = make([]string, 13) }, api.ErrLarge},
		{"place of the chart", func(a *asked) { a.c.Places[2] = "a" }, api.ErrExists},
		{"rows", func(a *asked) { a.c.Minutes = a.c.Minutes[:2] }, api.ErrShape},
		{"minutes", func(a *asked) { a.c.Minutes[1][1] = 1 }, api.ErrForm},
		{"from", func(a *asked) { a.from = -1 }, api.ErrMissing},
		{"to", func(a *asked) { a.to = 3 }, api.ErrMissing},
		{"no way", func(a *asked) { a.c.Minutes[0] = []int{0, -1, -1} }, api.ErrNone},
		{"stays", func(a *asked) { a.r.Stay = a.r.Stay[1:] }, api.ErrShape},
		{"many stops", func(a *asked) { a.r.Places, a.r.Stay = make([]int, 13), make([]int, 13) }, api.ErrLarge},
		{"begin of the run", func(a *asked) { a.r.Begin = -1 }, api.ErrRange},
		{"place of the run", func(a *asked) { a.r.Places[0] = 3 }, api.ErrMissing},
		{"stay", func(a *asked) { a.r.Stay[0] = 10001 }, api.ErrRange},
		{"gap", func(a *asked) { a.c.Minutes[0][1] = -1 }, api.ErrGap},
		{"lists", func(a *asked) { a.windows = a.windows[:2] }, api.ErrShape},
		{"windows of a stop", func(a *asked) { a.windows[0] = list(9, 8) }, api.ErrOrder},
		{"clash", func(a *asked) { a.windows[0] = nil }, api.ErrClash},
	}
}

// orderOf returns for each function the faults that it looks for, in the order of their errors.
func orderOf() map[string][]string {
	table, chart := []string{"mean", "many waves", "wave of the table"}, []string{"many places", "place of the chart", "rows", "minutes"}
	span, winds := []string{"ends", "turned", "long"}, []string{"no winds", "winds"}
	way, stops := []string{"from", "to", "no way"}, []string{"stays", "many stops", "begin of the run", "place of the run", "stay", "gap"}
	with := func(lists ...[]string) []string { return slices.Concat(lists...) }
	return map[string][]string{
		"CosOf":        {"angle"},
		"CheckTide":    table,
		"AngleAt":      {"wave", "minute"},
		"LevelAt":      with(table, []string{"minute"}),
		"SlackAt":      with(table, []string{"minute", "limit"}),
		"SlackWindows": with(table, []string{"limit of the ask", "span of the ask", "many windows"}),
		"Highest":      with(table, span),
		"CheckWindows": {"windows"},
		"Meet":         {"windows", "other windows", "many of both"},
		"Join":         {"windows", "other windows", "many of one"},
		"Longer":       {"windows", "length"},
		"FirstFit":     {"windows", "begin", "length", "no fit"},
		"CheckWinds":   winds,
		"WindAt":       with(winds, []string{"minute", "early"}),
		"CalmWindows":  with([]string{"shelter"}, winds, span),
		"CheckChart":   chart,
		"Way":          with(chart, way),
		"its minutes":  with(chart, way),
		"RunTimes":     with(chart, stops),
		"RunFits":      with(chart, stops, []string{"lists", "windows of a stop", "clash"}),
		"Print":        table,
	}
}

// P8.1 to P8.8, R1, R2: of several errors each function returns the one that comes first, beside a zero value.
func TestOrderOfErrors(t *testing.T) {
	all := map[string]fault{}
	for _, f := range faults() {
		all[f.name] = f
	}
	for name, call := range functions() {
		order := orderOf()[name]
		for set := range 1 << len(order) {
			a, wanted := question(), api.OK
			// The last fault is laid first, as an earlier one may take its place.
			for i, fault := range slices.Backward(order) {
				if set>>i&1 == 1 {
					all[fault].spoil(&a)
					wanted = all[fault].e
				}
			}
			x, e := call(a)
			if e != wanted || e != api.OK && !isZero(x) {
				t.Errorf("%s with %v, set %b: %v, error %d, want %d", name, order, set, x, e, wanted)
			}
		}
	}
}

// P8.1 to P8.8, R2: what a function does not take, or look at, brings no error.
func TestErrorsOfOthers(t *testing.T) {
	for name, call := range functions() {
		for _, f := range faults() {
			if slices.Contains(orderOf()[name], f.name) || slices.Contains(alsoWrong(name), f.name) {
				continue
			}
			a := question()
			f.spoil(&a)
			if x, e := call(a); e != api.OK {
				t.Errorf("%s with the fault %s: %v, error %d", name, f.name, x, e)
			}
		}
	}
}

// alsoWrong returns the faults that a function meets as another one: without direct ways there may be no way, and a run
// from a place has a gap; of many windows none may be long enough.
func alsoWrong(name string) []string {
	return map[string][]string{
		"RunTimes": {"no way"},
		"RunFits":  {"no way"},
		"FirstFit": {"many of both", "many of one"},
	}[name]
}
