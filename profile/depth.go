package profile

import (
	"slices"

	"shotline/api"
)

// DepthAt returns the depth of a plan at a second.
func DepthAt(p api.DivePlan, second int) (api.Range, api.Errno) {
	points, e := pointsTo(p, second)
	if e != api.OK {
		return api.Range{}, e
	}
	return depthOn(points, second).rounded(), api.OK
}

// GasAt returns the number of the gas of a plan at a second.
func GasAt(p api.DivePlan, second int) (int, api.Errno) {
	points, e := pointsTo(p, second)
	if e != api.OK {
		return 0, e
	}
	if len(p.Legs) == 0 {
		return 0, api.ErrNone
	}
	return p.Legs[legAt(points, second)].Gas, api.OK
}

// PointsOf returns the points at which the legs of a plan begin or end.
func PointsOf(p api.DivePlan) ([]api.DivePoint, api.Errno) {
	if _, e := CheckPlan(p); e != api.OK {
		return nil, e
	}
	points := []api.DivePoint{{}}
	for _, leg := range p.Legs {
		points = append(points, api.DivePoint{Second: endOf(points) + leg.Seconds, Depth: leg.Depth})
	}
	return points, api.OK
}

// MeanDepth returns the mean depth of a plan over all instants.
func MeanDepth(p api.DivePlan) (api.Range, api.Errno) {
	points, e := PointsOf(p)
	if e != api.OK || len(p.Legs) == 0 {
		return api.Range{}, e
	}
	sum := 0
	for i, leg := range p.Legs {
		sum += leg.Seconds * (points[i].Depth + leg.Depth)
	}
	return ratio{sum, 2 * endOf(points)}.rounded(), api.OK
}

// FastestUp returns the number of the leg of a plan that goes up fastest, and its centimetres a minute.
func FastestUp(p api.DivePlan) (int, api.Range, api.Errno) {
	points, e := PointsOf(p)
	if e != api.OK {
		return 0, api.Range{}, e
	}
	fastest, speed := -1, ratio{0, 1}
	for i, leg := range p.Legs {
		if up := (ratio{60 * (points[i].Depth - leg.Depth), leg.Seconds}); speed.less(up) {
			fastest, speed = i, up
		}
	}
	if fastest < 0 {
		return 0, api.Range{}, api.ErrNone
	}
	return fastest, speed.rounded(), api.OK
}

// pointsTo returns the points of a plan, if it has a second.
func pointsTo(p api.DivePlan, second int) ([]api.DivePoint, api.Errno) {
	points, e := PointsOf(p)
	if e != api.OK {
		return nil, e
	}
	if !within(second, 0, endOf(points)) {
		return nil, api.ErrRange
	}
	return points, api.OK
}

// endOf returns the last second of points.
func endOf(points []api.DivePoint) int {
	return points[len(points)-1].Second
}

// legAt returns the number of the first leg between points that ends at a second or later, -1 if there is none.
func legAt(points []api.DivePoint, second int) int {
	return slices.IndexFunc(points[1:], func(end api.DivePoint) bool { return end.Second >= second })
}

// depthOn returns the depth at a second from the first to the last one of points.
func depthOn(points []api.DivePoint, second int) ratio {
	leg := legAt(points, second)
	if leg < 0 {
		// Without legs there is one point only, and this is its second.
		return ratio{points[0].Depth, 1}
	}
	return between(points[leg], points[leg+1], second)
}
