package profile

import "shotline/api"

// ratio is num / den, with den above 0; products of two of them stay far below the greatest int.
type ratio struct{ num, den int }

func (x ratio) less(y ratio) bool {
	return x.num*y.den < y.num*x.den
}

func (x ratio) isWhole() bool {
	return x.num%x.den == 0
}

// rounded returns the number rounded down and rounded up; it is at least 0.
func (x ratio) rounded() api.Range {
	return api.Range{Lo: x.num / x.den, Hi: (x.num + x.den - 1) / x.den}
}

// apart returns how far a whole number is from this one, rounded.
func (x ratio) apart(n int) api.Range {
	off := n*x.den - x.num
	return ratio{max(off, -off), x.den}.rounded()
}

// between returns the depth at a second on the straight line from a to b.
func between(a, b api.DivePoint, second int) ratio {
	return ratio{a.Depth*(b.Second-second) + b.Depth*(second-a.Second), b.Second - a.Second}
}
