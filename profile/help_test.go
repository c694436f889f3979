package profile_test

import (
	"fmt"
	"math"
	"math/big"
	"math/rand"
	"reflect"
	"slices"
	"strings"
	"testing"

	"shotline/api"
	"shotline/profile"
)

// The tests use the exported functions alone, and find what they expect in another way than the package: second by
// second, by exact fractions, or by trying all lists of points.

var (
	air  = api.Gas{Oxygen: 210}
	half = api.Gas{Oxygen: 500}

	// Gases with one error each.
	wideGas = api.Gas{Oxygen: 1001}
	fullGas = api.Gas{Oxygen: 600, Helium: 401}

	extremes = []int{math.MinInt, -1, 0, 1, 2, 60, 400, 1013, 1101, 30000, 30001, 1000000, 1000001, math.MaxInt}
)

// reef is the plan of the examples.
func reef() api.DivePlan {
	return api.DivePlan{Name: "p", Surface: 1013, Gases: []api.Gas{air, half}, Legs: []api.DiveLeg{
		{Seconds: 60, Depth: 1800}, {Seconds: 600, Depth: 1800}, {Seconds: 120, Depth: 600}, {Seconds: 300, Depth: 600, Gas: 1}}}
}

// changed is the plan of the examples with a change.
func changed(f func(p *api.DivePlan)) api.DivePlan {
	p := reef()
	f(&p)
	return p
}

// dive is a plan with these legs, on air, half oxygen, and air again.
func dive(legs ...api.DiveLeg) api.DivePlan {
	return api.DivePlan{Name: "d", Surface: 1000, Gases: []api.Gas{air, half, air}, Legs: legs}
}

// points are the points of pairs of numbers.
func points(numbers ...int) []api.DivePoint {
	var l []api.DivePoint
	for pair := range slices.Chunk(numbers, 2) {
		l = append(l, api.DivePoint{Second: pair[0], Depth: pair[1]})
	}
	return l
}

func exactly(n int) api.Range { return api.Range{Lo: n, Hi: n} }

// flat is a value in which a nil list and an empty one are the same.
func flat(x any) string { return fmt.Sprintf("%+v", x) }

func expect(t *testing.T, what string, got any, e api.Errno, want any, wanted api.Errno) {
	t.Helper()
	if e != wanted || flat(got) != flat(want) || reflect.TypeOf(got) != reflect.TypeOf(want) {
		t.Errorf("%s: %+v, error %d; want %+v, error %d", what, got, e, want, wanted)
	}
}

// refuse checks that there is this error, beside a zero value.
func refuse[T any](t *testing.T, what string, got T, e, wanted api.Errno) {
	t.Helper()
	var zero T
	expect(t, what, got, e, zero, wanted)
}

// zeroBeside checks that a result beside an error is its zero value.
func zeroBeside[T any](t *testing.T, what string, got T, e api.Errno) {
	t.Helper()
	if e != api.OK {
		refuse(t, what, got, e, e)
	}
}

// rounded returns a fraction rounded down and up.
func rounded(x *big.Rat) api.Range {
	down, rest := new(big.Int).DivMod(x.Num(), x.Denom(), new(big.Int))
	r := exactly(int(down.Int64()))
	if rest.Sign() != 0 {
		r.Hi++
	}
	return r
}

func rat(num, den int) *big.Rat { return big.NewRat(int64(num), int64(den)) }

// onLine returns the depth at an instant on the straight line from a to b.
func onLine(a, b api.DivePoint, instant *big.Rat) *big.Rat {
	x := new(big.Rat).Sub(instant, rat(a.Second, 1))
	x.Mul(x, rat(b.Depth-a.Depth, b.Second-a.Second))
	return x.Add(x, rat(a.Depth, 1))
}

// depthAt returns the depth of a right plan at a second, and its gas, by going through its legs.
func depthAt(p api.DivePlan, second int) (*big.Rat, api.Gas) {
	at := api.DivePoint{}
	for _, leg := range p.Legs {
		to := api.DivePoint{Second: at.Second + leg.Seconds, Depth: leg.Depth}
		if second <= to.Second {
			return onLine(at, to, rat(second, 1)), p.Gases[leg.Gas]
		}
		at = to
	}
	return rat(0, 1), api.Gas{}
}

func secondsOf(p api.DivePlan) int {
	n := 0
	for _, leg := range p.Legs {
		n += leg.Seconds
	}
	return n
}

// somePlans yields many short plans, in which the same depths, speeds and gases come often.
func somePlans(n int, yield func(api.DivePlan)) {
	r := rand.New(rand.NewSource(20261118))
	pool := []api.Gas{air, half, air, {Oxygen: 210, Helium: 100}, half}
	for range n {
		p := api.DivePlan{Name: "d", Surface: 1000 + r.Intn(2), Gases: slices.Clone(pool[:1+r.Intn(len(pool))])}
		for range r.Intn(6) {
			p.Legs = append(p.Legs, api.DiveLeg{Seconds: 1 + r.Intn(4), Depth: r.Intn(5) * 3, Gas: r.Intn(len(p.Gases))})
		}
		yield(p)
	}
}

// wrongPlan is a change that makes a plan wrong, with the number of the leg and the error that come first.
type wrongPlan struct {
	name   string
	change func(p *api.DivePlan)
	leg    int
	want   api.Errno
}

// wrongPlans are changes of a plan with four legs; most make two errors, of which the first one is wanted.
func wrongPlans() []wrongPlan {
	longLegs := slices.Repeat([]api.DiveLeg{{Seconds: 1}}, 61)
	leg := func(n int, l api.DiveLeg) func(*api.DivePlan) {
		return func(p *api.DivePlan) { p.Legs[n] = l; p.Legs[3] = api.DiveLeg{Seconds: 1, Gas: 5} }
	}
	return []wrongPlan{
		{"no name", func(p *api.DivePlan) { p.Name, p.Surface = "", 0 }, 0, api.ErrName},
		{"a long name", func(p *api.DivePlan) { p.Name, p.Gases = "abcdefghijklm", nil }, 0, api.ErrName},
		{"a digit first", func(p *api.DivePlan) { p.Name, p.Legs = "1a", longLegs }, 0, api.ErrName},
		{"a dash first", func(p *api.DivePlan) { p.Name = "-a" }, 0, api.ErrName},
		{"a name with a blank", func(p *api.DivePlan) { p.Name = "a b" }, 0, api.ErrName},
		{"a name with a dot", func(p *api.DivePlan) { p.Name = "a." }, 0, api.ErrName},
		{"a name with a letter that is not ASCII", func(p *api.DivePlan) { p.Name = "aä" }, 0, api.ErrName},
		{"bytes beside the letters", func(p *api.DivePlan) { p.Name = "a@" }, 0, api.ErrName},
		{"a low surface", func(p *api.DivePlan) { p.Surface, p.Gases = 399, nil }, 0, api.ErrRange},
		{"a high surface", func(p *api.DivePlan) { p.Surface, p.Gases = 1101, []api.Gas{fullGas} }, 0, api.ErrRange},
		{"no gases", func(p *api.DivePlan) { p.Gases, p.Legs = nil, longLegs }, 0, api.ErrShape},
		{"an empty list of gases", func(p *api.DivePlan) { p.Gases = []api.Gas{} }, 0, api.ErrShape},
		{"nine gases", func(p *api.DivePlan) { p.Gases = slices.Repeat([]api.Gas{fullGas}, 9) }, 0, api.ErrLarge},
		{"a wide gas ahead of a full one", func(p *api.DivePlan) { p.Gases = []api.Gas{air, wideGas, fullGas} }, 0, api.ErrRange},
		{"a full gas ahead of a wide one", func(p *api.DivePlan) { p.Gases, p.Legs = []api.Gas{air, fullGas, wideGas}, longLegs }, 0, api.ErrSum},
		{"61 legs", func(p *api.DivePlan) { p.Legs = longLegs; p.Legs[0].Depth = -1 }, 0, api.ErrLarge},
		{"0 seconds", leg(0, api.DiveLeg{Gas: 2}), 0, api.ErrRange},
		{"seconds below 0", leg(1, api.DiveLeg{Seconds: -1}), 1, api.ErrRange},
		{"too many seconds", leg(2, api.DiveLeg{Seconds: 1000001, Gas: 2}), 2, api.ErrRange},
		{"as many seconds as fit an int", leg(2, api.DiveLeg{Seconds: math.MaxInt}), 2, api.ErrRange},
		{"above the surface", leg(1, api.DiveLeg{Seconds: 1, Depth: -1, Gas: 2}), 1, api.ErrRange},
		{"too deep", leg(1, api.DiveLeg{Seconds: 1000000, Depth: 30001}), 1, api.ErrRange},
		{"a gas that is not there", leg(1, api.DiveLeg{Seconds: 1000000, Gas: 2}), 1, api.ErrMissing},
		{"a gas below 0", leg(2, api.DiveLeg{Seconds: 1, Gas: -1}), 2, api.ErrMissing},
		{"an end too late", leg(1, api.DiveLeg{Seconds: 999941}), 1, api.ErrLarge},
		{"an end too late in the last leg", func(p *api.DivePlan) { p.Legs[3].Seconds = 1000000 }, 3, api.ErrLarge},
	}
}

// manyLegs is a right plan with 60 legs, and the name, the gases and the end that are just right.
func manyLegs() api.DivePlan {
	p := api.DivePlan{Name: "Zz9-zzzzzzzz", Surface: 1100, Gases: slices.Repeat([]api.Gas{{Oxygen: 600, Helium: 400}}, 8)}
	p.Legs = slices.Repeat([]api.DiveLeg{{Seconds: 1, Depth: 30000, Gas: 7}}, 60)
	p.Legs[30].Seconds = 999941
	return p
}

// copyOf returns a plan in memory of its own.
func copyOf(p api.DivePlan) api.DivePlan {
	p.Gases, p.Legs = slices.Clone(p.Gases), slices.Clone(p.Legs)
	return p
}

// spoil overwrites all that a plan keeps in lists.
func spoil(p api.DivePlan) {
	for i := range p.Gases {
		p.Gases[i] = fullGas
	}
	for i := range p.Legs {
		p.Legs[i] = api.DiveLeg{Seconds: -7}
	}
}

// wrongPoints are profiles with the error that comes first.
func wrongPoints() []struct {
	name string
	l    []api.DivePoint
	want api.Errno
} {
	long := make([]api.DivePoint, 201)
	return []struct {
		name string
		l    []api.DivePoint
		want api.Errno
	}{
		{"none", nil, api.ErrShape},
		{"an empty list", []api.DivePoint{}, api.ErrShape},
		{"one", points(-1, 0), api.ErrShape},
		{"201", long, api.ErrLarge},
		{"a second below 0", points(-1, 0, 1, 0), api.ErrRange},
		{"a second too late", points(5, 0, 1000001, 0), api.ErrRange},
		{"above the surface", points(5, 0, 4, -1), api.ErrRange},
		{"too deep", points(5, 0, 5, 30001), api.ErrRange},
		{"the same second", points(5, 0, 5, 0, 6, -1), api.ErrOrder},
		{"a second before", points(0, 0, 5, 0, 4, 0, 3, 30001), api.ErrOrder},
		{"a wrong point ahead of the order", points(0, 0, 5, 30001, 4, 0), api.ErrRange},
	}
}

// someProfiles yields many short profiles that begin at one second, and end at one.
func someProfiles(n int, yield func(a, b []api.DivePoint)) {
	r := rand.New(rand.NewSource(18112026))
	one := func(begin, end int) []api.DivePoint {
		l := points(begin, r.Intn(9))
		for s := begin + 1; s < end; s++ {
			if r.Intn(2) == 0 {
				l = append(l, api.DivePoint{Second: s, Depth: r.Intn(9)})
			}
		}
		return append(l, api.DivePoint{Second: end, Depth: r.Intn(9)})
	}
	for range n {
		begin := r.Intn(3)
		end := begin + 1 + r.Intn(9)
		yield(one(begin, end), one(begin, end))
	}
}

// depthOf returns the depth of a right profile at an instant.
func depthOf(l []api.DivePoint, instant *big.Rat) *big.Rat {
	for i := range len(l) - 1 {
		if rat(l[i+1].Second, 1).Cmp(instant) >= 0 {
			return onLine(l[i], l[i+1], instant)
		}
	}
	return nil
}

// text joins lines, each ended by a line feed.
func text(lines ...string) string { return strings.Join(lines, "\n") + "\n" }

func mustParse(t *testing.T, s string) api.DivePlan {
	t.Helper()
	p, m, e := profile.Parse(s)
	if e != api.OK || m != (api.TextMark{}) {
		t.Fatalf("Parse(%q): %v, error %d", s, m, e)
	}
	return p
}
