package site_test

import (
	"testing"

	"shotline/api"
	"shotline/site"
)

// P1: no function panics, whatever its numbers and names, and beside an error each other result is its zero value.
func TestEveryNumber(t *testing.T) {
	numbers := func(a *asked) []*int {
		return []*int{&a.angle, &a.t.Mean, &a.t.Waves[0].Height, &a.t.Waves[0].Period, &a.t.Waves[0].Phase, &a.w.Height, &a.w.Period, &a.w.Phase, &a.minute, &a.limit,
			&a.a.Limit, &a.a.Span.Lo, &a.a.Span.Hi, &a.span.Lo, &a.span.Hi, &a.l[0].Lo, &a.l[0].Hi, &a.l[1].Lo, &a.l[1].Hi, &a.l2[0].Lo, &a.l2[1].Hi, &a.begin, &a.length,
			&a.winds[0].From, &a.winds[0].Sector, &a.winds[0].Force, &a.winds[1].From, &a.winds[1].Sector, &a.s.Most[0], &a.s.Most[7],
			&a.c.Minutes[0][0], &a.c.Minutes[0][1], &a.c.Minutes[2][1], &a.from, &a.to, &a.r.Begin, &a.r.Places[0], &a.r.Places[2], &a.r.Stay[0], &a.r.Stay[2],
			&a.windows[0][0].Lo, &a.windows[2][0].Hi}
	}
	for i := range numbers(new(question())) {
		for _, n := range extremes {
			a := question()
			*numbers(&a)[i] = n
			everyFunction(t, a)
		}
	}
	for _, name := range []string{"", " ", "b", "c", "a b", "\n", "\xff", "abcdefghijklm"} {
		a := question()
		a.c.Places[0] = name
		everyFunction(t, a)
	}
	c := newChance(12)
	for range 3000 {
		a := question()
		for range 3 {
			*numbers(&a)[c.Intn(len(numbers(&a)))] = extremes[c.Intn(len(extremes))]
		}
		everyFunction(t, a)
	}
}

// P1: no function panics, however long its lists are.
func TestEveryLength(t *testing.T) {
	everyFunction(t, asked{})
	lists := map[string]func(a *asked, n int){
		"waves":   func(a *asked, n int) { a.t.Waves = make([]api.TideWave, n) },
		"windows": func(a *asked, n int) { a.l, a.l2 = make([]api.Range, n), comb(n, 0, 1, 3) },
		"winds":   func(a *asked, n int) { a.winds = make([]api.Wind, n) },
		"places":  func(a *asked, n int) { a.c.Places = make([]string, n) },
		"rows":    func(a *asked, n int) { a.c.Minutes = make([][]int, n) },
		"row": func(a *asked, n int) {
			if last := len(a.c.Minutes) - 1; last >= 0 {
				a.c.Minutes[last] = make([]int, n)
			}
		},
		"chart": func(a *asked, n int) { a.c = far(n, 1) },
		"stops": func(a *asked, n int) { a.r.Places = make([]int, n) },
		"stays": func(a *asked, n int) { a.r.Stay = make([]int, n) },
		"lists": func(a *asked, n int) { a.windows = make([][]api.Range, n) },
	}
	for _, first := range lists {
		for _, second := range lists {
			for _, n := range []int{0, 1, 2, 3, 10, 11, 12, 13, 60, 61} {
				for _, m := range []int{0, 1, 3, 13} {
					a := question()
					first(&a, n)
					second(&a, m)
					everyFunction(t, a)
				}
			}
		}
	}
}

// everyFunction calls each function. RunFits returns a number beside an error.
func everyFunction(t *testing.T, a asked) {
	t.Helper()
	for name, call := range functions() {
		x, e := call(a)
		if e != api.OK && !isZero(x) && name != "RunFits" {
			t.Errorf("%s of %+v: %v, error %d", name, a, x, e)
		}
	}
}

// R4: a nil list is an empty one.
func TestEmptyLists(t *testing.T) {
	a, b := question(), question()
	a.t.Waves, a.l, a.l2, a.winds, a.c, a.r, a.windows = nil, nil, nil, nil, api.SiteChart{}, api.BoatRun{}, nil
	b.t.Waves, b.l, b.l2, b.winds, b.windows = []api.TideWave{}, []api.Range{}, []api.Range{}, []api.Wind{}, [][]api.Range{}
	b.c, b.r = api.SiteChart{Places: []string{}, Minutes: [][]int{}}, api.BoatRun{Places: []int{}, Stay: []int{}}
	for range 2 {
		for name, call := range functions() {
			x, e := call(a)
			y, e2 := call(b)
			expect(t, name, flat(x), e, flat(y), e2)
		}
		a.c, b.c = harbour(), harbour()
		a.r, b.r = tour(), tour()
		a.windows, b.windows = [][]api.Range{nil, nil, nil}, [][]api.Range{{}, {}, {}}
	}
}

// R6, R7: no argument is changed, and results come again.
func TestArgumentsStay(t *testing.T) {
	c := newChance(13)
	for range 60 {
		a := question()
		a.t, a.l, a.l2 = c.table(), c.windows(20, 0), c.windows(20, 0)
		a.c, a.windows[2] = c.chart(3), c.windows(30, 0)
		// There is room behind each list, into which nothing may be written.
		a.t.Waves, a.l, a.l2, a.winds = roomy(a.t.Waves), roomy(a.l), roomy(a.l2), roomy(a.winds)
		a.r.Places, a.r.Stay, a.c.Minutes[0], a.windows[2] = roomy(a.r.Places), roomy(a.r.Stay), roomy(a.c.Minutes[0]), roomy(a.windows[2])
		all := func() string {
			return flat(a) + flat(a.t.Waves[:cap(a.t.Waves)]) + flat(a.l[:cap(a.l)]) + flat(a.l2[:cap(a.l2)]) + flat(a.winds[:cap(a.winds)]) +
				flat(a.r.Places[:cap(a.r.Places)]) + flat(a.r.Stay[:cap(a.r.Stay)]) + flat(a.c.Minutes[0][:cap(a.c.Minutes[0])]) + flat(a.windows[2][:cap(a.windows[2])])
		}
		before := all()
		results := map[string]string{}
		for range 3 {
			for name, call := range functions() {
				x, e := call(a)
				again := flat(x) + flat(e)
				if first, ok := results[name]; ok && first != again || all() != before {
					t.Fatalf("%s of %s: %s, then %s; now it is %+v", name, before, first, again, a)
				}
				results[name] = again
			}
		}
	}
}

// R6: a list that is returned may be changed, and nothing else changes.
func TestResultsAreNew(t *testing.T) {
	for name, call := range functions() {
		a := question()
		x, _ := call(a)
		before := flat(x)
		switch l := x.(type) {
		case []api.Range:
			clear(l)
		case []int:
			clear(l)
		case [][2]int:
			clear(l)
		}
		if y, _ := call(a); flat(y) != before || flat(a) != flat(question()) {
			t.Errorf("%s: %v, then %s; now it is asked with %+v", name, y, before, a)
		}
	}
	text := "tide 200\nwave 100 4096 0\n"
	x, _, _ := site.Parse(text)
	clear(x.Waves)
	y, _, e := site.Parse(text)
	expect(t, "Parse", y, e, tide(), api.OK)
}
