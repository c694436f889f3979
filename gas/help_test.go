package gas_test

import (
	"fmt"
	"math"
	"math/big"
	"testing"

	"shotline/api"
)

// The tests use the exported functions alone, and find what they expect in another way than the package: by
// whole numbers that are tried one by one, or by exact fractions.

var (
	air    = api.Gas{Oxygen: 210}
	oxygen = api.Gas{Oxygen: 1000}
	helium = api.Gas{Helium: 1000}
	nx32   = api.Gas{Oxygen: 320}
	tx1845 = api.Gas{Oxygen: 180, Helium: 450}
	tx1070 = api.Gas{Oxygen: 100, Helium: 700}

	// Gases with one error each.
	wideGas = api.Gas{Oxygen: 1001}
	fullGas = api.Gas{Oxygen: 600, Helium: 401}

	limits = api.OxygenLimits{Least: 160, Most: 1400}
	turned = api.OxygenLimits{Least: 2, Most: 1}

	extremes = []int{math.MinInt, -1, 0, 1, 399, 400, 1000, 1001, 1100, 1101, 4000, 4001, 30000, 30001, 100000, 100001,
		400000, 400001, 1000000000, 1000000001, math.MaxInt}
)

// expect checks a result and its error; beside an error the result must be its zero value.
func expect[T comparable](t *testing.T, what string, got T, e api.Errno, want T, wanted api.Errno) {
	t.Helper()
	if e != wanted || got != want {
		t.Errorf("%s: %v, error %d; want %v, error %d", what, got, e, want, wanted)
	}
}

// refuse checks that there is this error, beside a zero value.
func refuse[T comparable](t *testing.T, what string, got T, e, wanted api.Errno) {
	t.Helper()
	var zero T
	expect(t, what, got, e, zero, wanted)
}

// zeroBeside checks that a result beside an error is its zero value.
func zeroBeside[T comparable](t *testing.T, what string, got T, e api.Errno) {
	t.Helper()
	var zero T
	if e != api.OK && got != zero {
		t.Errorf("%s: %v beside the error %d", what, got, e)
	}
}

// around returns num / den, rounded down and rounded up, less a number, but at least 0.
func around(num, den, less int) api.Range {
	down, rest := new(big.Int).DivMod(big.NewInt(int64(num)), big.NewInt(int64(den)), new(big.Int))
	r := api.Range{Lo: int(down.Int64()) - less, Hi: int(down.Int64()) - less}
	if rest.Sign() != 0 {
		r.Hi++
	}
	return api.Range{Lo: max(0, r.Lo), Hi: max(0, r.Hi)}
}

func nitrogen(g api.Gas) int { return 1000 - g.Oxygen - g.Helium }

// breathes tells whether a gas may be breathed at a depth.
func breathes(g api.Gas, surface, depth int, l api.OxygenLimits) bool {
	p := g.Oxygen * (surface + depth)
	return 1000*l.Least <= p && p <= 1000*l.Most
}

// meets tells whether a gas meets an aim.
func meets(g api.Gas, a api.GasAim) bool {
	deep := (1000-g.Helium)*(a.Surface+a.Depth) - 1000*a.Surface // in thousandths
	return breathes(g, a.Surface, a.Depth, a.Oxygen) && deep <= 1000*a.Narcotic
}

// someGases yields gases on a grid, with those that lie at its borders.
func someGases(step int, yield func(api.Gas)) {
	for o := 0; o <= 1000; o += step {
		for h := 0; o+h <= 1000; h += step {
			yield(api.Gas{Oxygen: o, Helium: h})
		}
		yield(api.Gas{Oxygen: o, Helium: 1000 - o})
	}
}

func call(name string, arguments ...any) string {
	return name + fmt.Sprint(arguments...)
}
