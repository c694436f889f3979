package tissue

import (
	"shotline/api"
	"shotline/check"
)

const (
	// one is the decay of no time, and what roots and decays are parts of.
	one = 1000000000
	// mostHalvings is as many as leave nothing of one but its rounding: more of them change nothing.
	mostHalvings = 30
)

// RootOf returns the root of a level.
func RootOf(level int) (api.Range, api.Errno) {
	if e := checkLevel(level); e != api.OK {
		return api.Range{}, e
	}
	return rootsTo(level)[level], api.OK
}

// Decay returns the decay of some seconds with a half time and a level.
func Decay(seconds, half, level int) (api.Range, api.Errno) {
	if e := check.First(check.Range(seconds, 0, api.MaxSecond), check.Range(half, 1, api.MaxHalf), checkLevel(level)); e != api.OK {
		return api.Range{}, e
	}
	return decayOf(seconds, half, rootsTo(level)), api.OK
}

func checkLevel(level int) api.Errno {
	return check.Range(level, 0, api.MaxRootLevel)
}

// rootsTo returns the roots of the levels from 0 to this one.
func rootsTo(level int) []api.Range {
	root := api.Range{Lo: one / 2, Hi: one / 2}
	roots := []api.Range{root}
	for range level {
		root = api.Range{Lo: squareRoot(one * root.Lo), Hi: squareRoot(one*root.Hi-1) + 1}
		roots = append(roots, root)
	}
	return roots
}

// squareRoot returns the square root of a number from 0 to one * one, rounded down.
func squareRoot(n int) int {
	// From above, each mean of r and n / r is nearer to the root, and never less than it rounded down.
	r := one
	for r*r > n {
		r = (r + n/r) / 2
	}
	return r
}

// decayOf returns a decay with the level of the last one of some roots.
func decayOf(seconds, half int, roots []api.Range) api.Range {
	d := api.Range{Lo: one, Hi: one}
	for range min(seconds/half, mostHalvings) {
		d = api.Range{Lo: divide(d.Lo, 2).Lo, Hi: divide(d.Hi, 2).Hi}
	}
	rest := seconds % half
	for _, root := range roots[1:] {
		rest *= 2
		if rest >= half {
			rest -= half
			d = api.Range{Lo: share(d.Lo, root.Lo).Lo, Hi: share(d.Hi, root.Hi).Hi}
		}
	}
	if rest != 0 {
		d.Lo = share(d.Lo, roots[len(roots)-1].Lo).Lo
	}
	return d
}

// share returns a part of a number, in parts of one, rounded down and rounded up.
func share(n, part int) api.Range {
	return divide(n*part, one)
}
