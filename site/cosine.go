package site

import (
	"sort"

	"shotline/api"
	"shotline/check"
)

const (
	// quarter is a quarter of a turn, which is halved so often till one part is left.
	quarter  = api.TideTurn / 4
	halvings = 10
)

// point is the cosine and the sine of an angle, as enclosures in parts of TideOne.
type point struct{ cos, sin api.Range }

// halves are the points of a quarter of a turn, of its half, and so on down to one part.
type halves [halvings + 1]point

// CosOf returns the cosine of an angle.
func CosOf(angle int) (api.Range, api.Errno) {
	if e := checkAngle(angle); e != api.OK {
		return api.Range{}, e
	}
	h := halved()
	return h.cosine(angle), api.OK
}

func checkAngle(angle int) api.Errno {
	return check.Range(angle, 0, api.TideTurn-1)
}

// halved returns the points of all halves.
func halved() halves {
	h := halves{{sin: api.Range{Lo: api.TideOne, Hi: api.TideOne}}}
	for k := range halvings {
		whole := h[k].cos
		h[k+1] = point{
			cos: api.Range{Lo: rootDown(half(api.TideOne + whole.Lo)), Hi: rootUp(half(api.TideOne + whole.Hi))},
			sin: api.Range{Lo: rootDown(half(api.TideOne - whole.Hi)), Hi: rootUp(half(api.TideOne - whole.Lo))},
		}
	}
	return h
}

// half returns the half of a number of parts of TideOne, in parts of its square.
func half(n int) int {
	return n * (api.TideOne / 2)
}

// rootDown returns the square root of a number from 0 to the square of TideOne, rounded down.
func rootDown(n int) int {
	return sort.Search(api.TideOne, func(r int) bool { return (r+1)*(r+1) > n })
}

// rootUp returns the square root of a number from 0 to the square of TideOne, rounded up.
func rootUp(n int) int {
	return sort.Search(api.TideOne, func(r int) bool { return r*r >= n })
}

// cosine returns the cosine of an angle from 0 to a whole turn.
func (h *halves) cosine(angle int) api.Range {
	at := h.at(angle % quarter)
	switch angle / quarter {
	case 1:
		return negative(at.sin)
	case 2:
		return negative(at.cos)
	case 3:
		return at.sin
	}
	return at.cos
}

// at returns the point of an angle of less than a quarter.
func (h *halves) at(angle int) point {
	p := point{cos: api.Range{Lo: api.TideOne, Hi: api.TideOne}}
	for k, by := range h {
		if angle&(quarter>>k) != 0 {
			p = p.turned(by)
		}
	}
	return p
}

// turned returns the point of the sum of two angles.
func (p point) turned(by point) point {
	return point{
		cos: api.Range{
			Lo: max(0, down(p.cos.Lo*by.cos.Lo-p.sin.Hi*by.sin.Hi)),
			Hi: up(p.cos.Hi*by.cos.Hi - p.sin.Lo*by.sin.Lo),
		},
		sin: api.Range{
			Lo: down(p.sin.Lo*by.cos.Lo + p.cos.Lo*by.sin.Lo),
			Hi: min(api.TideOne, up(p.sin.Hi*by.cos.Hi+p.cos.Hi*by.sin.Hi)),
		},
	}
}

func negative(r api.Range) api.Range {
	return api.Range{Lo: -r.Hi, Hi: -r.Lo}
}

// down returns a number divided by TideOne, rounded down.
func down(n int) int {
	if n%api.TideOne < 0 {
		return n/api.TideOne - 1
	}
	return n / api.TideOne
}

// up returns a number divided by TideOne, rounded up.
func up(n int) int {
	return -down(-n)
}
