package gas

import "shotline/api"

// partsOf returns the oxygen, the helium and the nitrogen of a gas.
func partsOf(g api.Gas) [3]int {
	return [3]int{g.Oxygen, g.Helium, nitrogenOf(g)}
}

func nitrogenOf(g api.Gas) int {
	return whole - g.Oxygen - g.Helium
}

// within tells whether n is from least to most.
func within(n, least, most int) bool {
	return least <= n && n <= most
}

// checkRange returns ErrRange if n is not from least to most.
func checkRange(n, least, most int) api.Errno {
	if !within(n, least, most) {
		return api.ErrRange
	}
	return api.OK
}

func checkSurface(surface int) api.Errno {
	return checkRange(surface, api.LeastAir, api.MostAir)
}

func checkDepth(depth int) api.Errno {
	return checkRange(depth, 0, api.MaxDepth)
}

func checkAmount(amount int) api.Errno {
	return checkRange(amount, 0, api.MaxAmount)
}

// firstOf returns the first error of a list that is one.
func firstOf(list ...api.Errno) api.Errno {
	for _, e := range list {
		if e != api.OK {
			return e
		}
	}
	return api.OK
}

// enclose returns num / den, rounded down and rounded up; num is at least 0, den above it.
func enclose(num, den int) api.Range {
	return api.Range{Lo: num / den, Hi: (num + den - 1) / den}
}
