package profile

import "shotline/api"

// CheckPoints returns the error of a profile.
func CheckPoints(l []api.DivePoint) api.Errno {
	if len(l) < 2 {
		return api.ErrShape
	}
	if len(l) > api.MaxPoints {
		return api.ErrLarge
	}
	for i, x := range l {
		if !within(x.Second, 0, api.MaxSecond) || !isDepth(x.Depth) {
			return api.ErrRange
		}
		if i > 0 && x.Second <= l[i-1].Second {
			return api.ErrOrder
		}
	}
	return api.OK
}

// DepthOf returns the depth of a profile at a second.
func DepthOf(l []api.DivePoint, second int) (api.Range, api.Errno) {
	if e := CheckPoints(l); e != api.OK {
		return api.Range{}, e
	}
	if !within(second, l[0].Second, endOf(l)) {
		return api.Range{}, api.ErrRange
	}
	return depthOn(l, second).rounded(), api.OK
}

// Distance returns the greatest difference of the depths of two profiles.
func Distance(a, b []api.DivePoint) (api.Range, api.Errno) {
	if e := checkBoth(a, b); e != api.OK {
		return api.Range{}, e
	}
	return distance(a, b)
}

// IsWithin tells whether the distance of two profiles is at most an error.
func IsWithin(a, b []api.DivePoint, most int) (bool, api.Errno) {
	if e := checkBoth(a, b); e != api.OK {
		return false, e
	}
	if !isDepth(most) {
		return false, api.ErrRange
	}
	r, e := distance(a, b)
	return e == api.OK && r.Hi <= most, e
}

// checkBoth returns the error of the first of two profiles that has one.
func checkBoth(a, b []api.DivePoint) api.Errno {
	if e := CheckPoints(a); e != api.OK {
		return e
	}
	return CheckPoints(b)
}

// distance returns the distance of two right profiles.
func distance(a, b []api.DivePoint) (api.Range, api.Errno) {
	if a[0].Second != b[0].Second || endOf(a) != endOf(b) {
		return api.Range{}, api.ErrClash
	}
	// Between points both go evenly, so they are nowhere farther apart than at a point of one of them.
	r, s := farthest(a, b), farthest(b, a)
	return api.Range{Lo: max(r.Lo, s.Lo), Hi: max(r.Hi, s.Hi)}, api.OK
}

// farthest returns how far a point of a profile is at most from another profile.
func farthest(points, from []api.DivePoint) api.Range {
	var most api.Range
	for _, x := range points {
		r := depthOn(from, x.Second).apart(x.Depth)
		most = api.Range{Lo: max(most.Lo, r.Lo), Hi: max(most.Hi, r.Hi)}
	}
	return most
}
