package site_test

import (
	"math"
	"math/big"
	"testing"

	"shotline/api"
	"shotline/site"
)

// turnPoint is the cosine and the sine of an angle, worked out with numbers of any size.
type turnPoint struct{ cosLo, cosHi, sinLo, sinHi *big.Int }

var one = number(100000000)

func number(n int) *big.Int { return big.NewInt(int64(n)) }

func plus(a, b *big.Int) *big.Int  { return new(big.Int).Add(a, b) }
func minus(a, b *big.Int) *big.Int { return new(big.Int).Sub(a, b) }
func times(a, b *big.Int) *big.Int { return new(big.Int).Mul(a, b) }

// lower and upper divide by TideOne.
func lower(n *big.Int) *big.Int {
	down, _ := new(big.Int).DivMod(n, one, new(big.Int))
	return down
}

func upper(n *big.Int) *big.Int {
	return new(big.Int).Neg(lower(new(big.Int).Neg(n)))
}

// rootOver returns a square root rounded up.
func rootOver(n *big.Int) *big.Int {
	r := new(big.Int).Sqrt(n)
	if times(r, r).Cmp(n) < 0 {
		r.Add(r, number(1))
	}
	return r
}

// halfOf returns c(k) and s(k).
func halfOf(k int) turnPoint {
	if k == 0 {
		return turnPoint{number(0), number(0), one, one}
	}
	p, half := halfOf(k-1), number(50000000)
	return turnPoint{
		new(big.Int).Sqrt(times(plus(one, p.cosLo), half)), rootOver(times(plus(one, p.cosHi), half)),
		new(big.Int).Sqrt(times(minus(one, p.cosHi), half)), rootOver(times(minus(one, p.cosLo), half)),
	}
}

// quarterOf returns the cosine and the sine of a quarter angle: those of the angle without its last digit, turned by it.
func quarterOf(a int) turnPoint {
	if a == 0 {
		return turnPoint{one, one, number(0), number(0)}
	}
	k := 10
	for a>>(10-k)&1 == 0 {
		k--
	}
	p, by := quarterOf(a&(a-1)), halfOf(k)
	x := turnPoint{
		lower(minus(times(p.cosLo, by.cosLo), times(p.sinHi, by.sinHi))), upper(minus(times(p.cosHi, by.cosHi), times(p.sinLo, by.sinLo))),
		lower(plus(times(p.sinLo, by.cosLo), times(p.cosLo, by.sinLo))), upper(plus(times(p.sinHi, by.cosHi), times(p.cosHi, by.sinHi))),
	}
	if x.cosLo.Sign() < 0 {
		x.cosLo = number(0)
	}
	if x.sinHi.Cmp(one) > 0 {
		x.sinHi = one
	}
	return x
}

// P8.1: cosines that the document names, and those of halves of a turn.
func TestCosines(t *testing.T) {
	for angle, want := range map[int]api.Range{
		0: exactly(100000000), 1024: exactly(0), 2048: exactly(-100000000), 3072: exactly(0),
		512: from(70710678, 70710679), 1536: from(-70710679, -70710678), 2560: from(-70710679, -70710678), 3584: from(70710678, 70710679),
	} {
		r, e := site.CosOf(angle)
		expect(t, "CosOf "+flat(angle), r, e, want, api.OK)
	}
	for _, angle := range []int{-1, 4096, -4096, 8192, math.MinInt, math.MaxInt} {
		r, e := site.CosOf(angle)
		refuse(t, "CosOf "+flat(angle), r, e, api.ErrRange)
	}
}

// P8.1: all cosines, by the definition.
func TestAllCosines(t *testing.T) {
	for a := range 1024 {
		p := quarterOf(a)
		cos, sin := from(int(p.cosLo.Int64()), int(p.cosHi.Int64())), from(int(p.sinLo.Int64()), int(p.sinHi.Int64()))
		for angle, want := range map[int]api.Range{a: cos, a + 1024: from(-sin.Hi, -sin.Lo), a + 2048: from(-cos.Hi, -cos.Lo), a + 3072: sin} {
			r, e := site.CosOf(angle)
			expect(t, "CosOf "+flat(angle), r, e, want, api.OK)
		}
	}
}

// P8.9: cosines enclose what they stand for, and are narrow; squares add up to 1; angles on both sides of 0 agree.
func TestEnclosed(t *testing.T) {
	for angle := range 4096 {
		r := cosineOf(t, angle)
		if x := 1e8 * math.Cos(2*math.Pi*float64(angle)/4096); float64(r.Lo) > x+1e-6 || float64(r.Hi) < x-1e-6 {
			t.Errorf("the cosine of %d is %v, which does not enclose %f", angle, r, x)
		}
		if r.Lo > r.Hi || r.Hi-r.Lo > 1000 {
			t.Errorf("the cosine of %d is %v", angle, r)
		}
		if other := cosineOf(t, (4096-angle)%4096); max(r.Lo, other.Lo) > min(r.Hi, other.Hi) {
			t.Errorf("the cosines of %d are %v and %v", angle, r, other)
		}
		a, b := squares(r), squares(cosineOf(t, (angle+3072)%4096))
		if a.Lo+b.Lo > 1e16 || a.Hi+b.Hi < 1e16 {
			t.Errorf("the squares at %d are %v and %v", angle, a, b)
		}
	}
}

// squares returns the least and the greatest square of the numbers of a range.
func squares(r api.Range) api.Range {
	x := from(min(r.Lo*r.Lo, r.Hi*r.Hi), max(r.Lo*r.Lo, r.Hi*r.Hi))
	if r.Lo <= 0 && r.Hi >= 0 {
		x.Lo = 0
	}
	return x
}
