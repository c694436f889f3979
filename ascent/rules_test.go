package ascent_test

import (
	"math"
	"math/rand"
	"testing"

	"shotline/api"
	"shotline/ascent"
)

// rightRules are rules at the ends of their ranges, and the rules of the examples.
func rightRules() []api.AscentRules {
	return []api.AscentRules{
		{Speed: 30, Grid: 1, Step: 1, Low: 0, High: 0, Anchor: 1, Fine: 0},
		{Speed: 6000, Grid: 3000, Step: 3600, Low: 1000, High: 1000, Anchor: 30000, Fine: 6},
		{Speed: 900, Grid: 300, Step: 60, Low: 300, High: 800, Anchor: 1000},
		{Speed: 31, Grid: 7, Step: 60, Low: 0, High: 1000, Anchor: 30000},
		{Speed: 59, Grid: 1, Step: 60, Low: 0, High: 1000, Anchor: 7},
		{Speed: 5999, Grid: 2999, Step: 60, Low: 999, High: 1000, Anchor: 13},
	}
}

// wrongRules are rules with one number that is out of its range.
func wrongRules() []api.AscentRules {
	var l []api.AscentRules
	for _, r := range rightRules()[:2] {
		for field, wrong := range map[*int][]int{
			&r.Speed: {29, 6001}, &r.Grid: {0, 3001}, &r.Step: {0, 3601}, &r.Low: {-1, 1001}, &r.High: {-1, 1001}, &r.Anchor: {0, 30001}, &r.Fine: {-1, 7},
		} {
			was := *field
			for _, n := range append(wrong, math.MinInt, math.MaxInt) {
				*field = n
				l = append(l, r)
			}
			*field = was
		}
	}
	return l
}

// P4.1: right and wrong rules.
func TestRules(t *testing.T) {
	for _, r := range rightRules() {
		wrongRule(t, r, api.OK)
	}
	for _, r := range wrongRules() {
		wrongRule(t, r, api.ErrRange)
	}
	r := rightRules()[2]
	r.Low = 801
	wrongRule(t, r, api.ErrOrder)
	r.Fine = 7
	wrongRule(t, r, api.ErrRange)
}

func wrongRule(t *testing.T, r api.AscentRules, want api.Errno) {
	t.Helper()
	if e := ascent.CheckRules(r); e != want {
		t.Errorf("CheckRules(%+v): error %d, want %d", r, e, want)
	}
	if want == api.OK {
		return
	}
	n, e := ascent.FactorAt(r, -1)
	refuse(t, "FactorAt", n, e, want)
	n, e = ascent.RiseSeconds(r, 0, -1)
	refuse(t, "RiseSeconds", n, e, want)
	for _, depth := range []int{0, -1} {
		n, e = ascent.NextStop(r, depth)
		refuse(t, "NextStop", n, e, want)
	}
}

// P4.1, P4.10: factors at depths, which never fall towards the surface.
func TestFactorAt(t *testing.T) {
	r := rightRules()[2]
	for depth, want := range map[int]int{1000: 300, 2000: 300, 30000: 300, 0: 800, 333: 633, 999: 300, 998: 301, 1: 799, 2: 799, 3: 798} {
		f, e := ascent.FactorAt(r, depth)
		expect(t, flat(depth), f, e, want, api.OK)
	}
	for _, r := range rightRules() {
		before := 1000
		for depth := range 30001 {
			f, e := ascent.FactorAt(r, depth)
			if want := factorOf(r, depth); f != want || e != api.OK || f > before {
				t.Fatalf("FactorAt(%+v, %d): %d, error %d; want %d, at most %d", r, depth, f, e, want, before)
			}
			before = f
		}
		if before != r.Low {
			t.Errorf("%+v: the factor at 30000 is %d", r, before)
		}
	}
	for _, depth := range []int{-1, 30001, math.MinInt, math.MaxInt} {
		f, e := ascent.FactorAt(r, depth)
		refuse(t, flat(depth), f, e, api.ErrRange)
	}
}

// P4.1: seconds of rises.
func TestRiseSeconds(t *testing.T) {
	for _, test := range []struct{ speed, from, to, want int }{
		{900, 1000, 0, 67}, {500, 1000, 500, 60}, {30, 30000, 0, 60000}, {6000, 30000, 0, 300}, {6000, 1, 0, 1}, {6000, 100, 0, 1}, {6000, 101, 0, 2},
		{30, 1, 0, 2}, {59, 59, 0, 60}, {59, 60, 0, 62}, {900, 700, 700, 0}, {900, 30000, 30000, 0}, {900, 0, 0, 0},
	} {
		r := rightRules()[0]
		r.Speed = test.speed
		s, e := ascent.RiseSeconds(r, test.from, test.to)
		expect(t, flat(test), s, e, test.want, api.OK)
	}
	c := chance{rand.New(rand.NewSource(1))}
	for _, r := range rightRules() {
		for range 300 {
			from := c.from(0, 30000)
			to := c.from(0, from)
			s, e := ascent.RiseSeconds(r, from, to)
			expect(t, flat([]int{r.Speed, from, to}), s, e, secondsUp(r, from, to), api.OK)
		}
	}
	for _, test := range []struct {
		from, to int
		want     api.Errno
	}{
		{-1, 0, api.ErrRange}, {30001, 0, api.ErrRange}, {5, -1, api.ErrRange}, {5, 30001, api.ErrRange}, {5, 6, api.ErrOrder}, {0, 30000, api.ErrOrder},
		{math.MinInt, math.MaxInt, api.ErrRange}, {0, math.MaxInt, api.ErrRange}, {math.MaxInt, 0, api.ErrRange},
	} {
		s, e := ascent.RiseSeconds(rightRules()[2], test.from, test.to)
		refuse(t, flat(test), s, e, test.want)
	}
}

// P4.1: next stops.
func TestNextStop(t *testing.T) {
	for _, test := range [][3]int{
		{300, 1000, 900}, {300, 900, 600}, {300, 901, 900}, {300, 600, 300}, {300, 300, 0}, {300, 299, 0}, {300, 1, 0}, {1, 1, 0}, {1, 2, 1}, {1, 30000, 29999},
		{3000, 30000, 27000}, {3000, 29999, 27000}, {3000, 3001, 3000}, {3000, 3000, 0},
	} {
		r := rightRules()[2]
		r.Grid = test[0]
		n, e := ascent.NextStop(r, test[1])
		expect(t, flat(test), n, e, test[2], api.OK)
	}
	for _, r := range rightRules() {
		for depth := 1; depth <= 30000; depth++ {
			n, e := ascent.NextStop(r, depth)
			if want := stopAbove(r, depth); n != want || e != api.OK {
				t.Fatalf("NextStop(%+v, %d): %d, error %d; want %d", r, depth, n, e, want)
			}
		}
	}
	for depth, want := range map[int]api.Errno{0: api.ErrNone, -1: api.ErrRange, 30001: api.ErrRange, math.MinInt: api.ErrRange, math.MaxInt: api.ErrRange} {
		n, e := ascent.NextStop(rightRules()[2], depth)
		refuse(t, flat(depth), n, e, want)
	}
}
