package mix

import (
	"cmp"

	"shotline/api"
)

// ratio is num / den, with den above 0.
type ratio struct{ num, den int }

// compare returns -1, 0 or 1 as x is less than, equal to, or greater than y. Whole numbers are compared ahead of rests, for
// num of one times den of the other one may be too large for an int.
func (x ratio) compare(y ratio) int {
	return cmp.Or(cmp.Compare(x.down(), y.down()), cmp.Compare(x.rest()*y.den, y.rest()*x.den))
}

// down returns the number rounded down.
func (x ratio) down() int {
	down := x.num / x.den
	if x.num < down*x.den {
		down--
	}
	return down
}

// up returns the number rounded up.
func (x ratio) up() int {
	return -ratio{-x.num, x.den}.down()
}

// rest returns what num has more than den times the number rounded down.
func (x ratio) rest() int {
	return x.num - x.down()*x.den
}

// rounded returns the number rounded down and rounded up.
func (x ratio) rounded() api.Range {
	return api.Range{Lo: x.down(), Hi: x.up()}
}
