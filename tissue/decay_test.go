package tissue_test

import (
	"math/big"
	"math/rand"
	"testing"

	"shotline/api"
	"shotline/tissue"
)

// P3.2: roots.
func TestRoots(t *testing.T) {
	for level, want := range []api.Range{exactly(500000000), {Lo: 707106781, Hi: 707106782}, {Lo: 840896415, Hi: 840896416}} {
		r, e := tissue.RootOf(level)
		expect(t, "RootOf", r, e, want, api.OK)
	}
	for level := 0; level <= 24; level++ {
		r, e := tissue.RootOf(level)
		expect(t, "RootOf", r, e, root(level), api.OK)
		// 10^9 times 2 to the power of -1 / 2^level lies in it: raised to the power of 2^level, its ends enclose a half.
		if power(r.Lo, 1<<level, false).Cmp(rat(1, 2)) > 0 || power(r.Hi, 1<<level, true).Cmp(rat(1, 2)) < 0 {
			t.Errorf("the root %d of the level %d does not enclose the power", r, level)
		}
	}
	for _, level := range []int{-1, 25} {
		r, e := tissue.RootOf(level)
		refuse(t, "RootOf", r, e, api.ErrRange)
	}
}

// power returns a bound of (n / 10^9) to the power of some exponent, from below or from above.
func power(n, exponent int, below bool) *big.Rat {
	mode := big.ToPositiveInf
	if below {
		mode = big.ToNegativeInf
	}
	number := func() *big.Float { return new(big.Float).SetPrec(400).SetMode(mode) }
	x := number().Quo(number().SetInt64(int64(n)), number().SetInt64(1000000000))
	p := number().SetInt64(1)
	for ; exponent > 0; exponent /= 2 {
		if exponent%2 == 1 {
			p.Mul(p, x)
		}
		x.Mul(x, x)
	}
	r, _ := p.Rat(nil)
	return r
}

// P3.2: decays, by the definition.
func TestDecays(t *testing.T) {
	tests := []struct {
		seconds, half, level int
		want                 api.Range
	}{
		{600, 600, 0, exactly(500000000)},
		{600, 600, 24, exactly(500000000)},
		{300, 600, 1, api.Range{Lo: 707106781, Hi: 707106782}},
		{300, 600, 0, api.Range{Lo: 500000000, Hi: 1000000000}},
		{301, 600, 1, api.Range{Lo: 499999999, Hi: 707106782}}, // 707106781^2 / 10^9 = 499999999.7
		{299, 600, 1, api.Range{Lo: 707106781, Hi: 1000000000}},
		{0, 1, 0, exactly(1000000000)},
		{0, 100000, 24, exactly(1000000000)},
		{1, 100000, 0, api.Range{Lo: 500000000, Hi: 1000000000}},
		{900, 600, 1, api.Range{Lo: 353553390, Hi: 353553391}},
		{29, 1, 5, api.Range{Lo: 1, Hi: 2}},
		{30, 1, 5, api.Range{Lo: 0, Hi: 1}},
		{31, 1, 5, api.Range{Lo: 0, Hi: 1}},
		{1000000, 1, 3, api.Range{Lo: 0, Hi: 1}},
		{1000000, 3, 24, api.Range{Lo: 0, Hi: 1}},
		{10, 1, 0, api.Range{Lo: 976562, Hi: 976563}},
	}
	for _, test := range tests {
		r, e := tissue.Decay(test.seconds, test.half, test.level)
		expect(t, flat(test), r, e, test.want, api.OK)
	}
	c := chance{rand.New(rand.NewSource(2))}
	for range 4000 {
		half, level := c.from(1, 1<<c.from(0, 16)), c.from(0, 24)
		seconds := c.from(0, min(1000000, half*c.from(1, 32)))
		r, e := tissue.Decay(seconds, half, level)
		expect(t, flat([]int{seconds, half, level}), r, e, decay(seconds, half, level), api.OK)
		if r.Lo > r.Hi {
			t.Errorf("the decay of %d with %d, level %d, is %v", seconds, half, level, r)
		}
	}
}

// P3.2: 2 to the power of -seconds / half lies in a decay; with a higher level it is narrower.
func TestDecaysEnclose(t *testing.T) {
	for _, half := range []int{1, 2, 3, 7, 60, 240, 600, 1000} {
		for seconds := 0; seconds <= 3*half; seconds += 1 + half/17 {
			want := new(big.Rat).SetFrac(big.NewInt(1), new(big.Int).Lsh(big.NewInt(1), uint(seconds)))
			var coarse api.Range
			for level := 0; level <= 24; level += 4 {
				r, _ := tissue.Decay(seconds, half, level)
				if power(r.Lo, half, false).Cmp(want) > 0 || power(r.Hi, half, true).Cmp(want) < 0 {
					t.Errorf("the decay %v of %d with %d, level %d, does not enclose the power", r, seconds, half, level)
				}
				if level > 0 && r.Hi-r.Lo > coarse.Hi-coarse.Lo+100 {
					t.Errorf("the decay %v of %d with %d, level %d, is wider than %v", r, seconds, half, level, coarse)
				}
				coarse = r
			}
		}
	}
}

// P3.2: errors of decays.
func TestWrongDecays(t *testing.T) {
	for _, wrong := range [][3]int{{-1, 1, 0}, {1000001, 1, 0}, {0, 0, 0}, {0, 100001, 0}, {0, 1, -1}, {0, 1, 25}} {
		r, e := tissue.Decay(wrong[0], wrong[1], wrong[2])
		refuse(t, flat(wrong), r, e, api.ErrRange)
	}
	if _, e := tissue.Decay(1000000, 100000, 24); e != api.OK {
		t.Errorf("the greatest numbers: error %d", e)
	}
}

// P3.7: products of decays of times that add up meet the decay of both.
func TestDecaysMultiply(t *testing.T) {
	c := chance{rand.New(rand.NewSource(7))}
	for range 4000 {
		half, level := c.from(1, 1<<c.from(0, 16)), c.from(0, 24)
		a, b := c.from(0, min(500000, 4*half)), c.from(0, min(500000, 4*half))
		x, _ := tissue.Decay(a, half, level)
		y, _ := tissue.Decay(b, half, level)
		both, _ := tissue.Decay(a+b, half, level)
		low, high := times(rat(x.Lo, 1000000000), rat(y.Lo, 1)), times(rat(x.Hi, 1000000000), rat(y.Hi, 1))
		if low.Cmp(rat(both.Hi, 1)) > 0 || high.Cmp(rat(both.Lo, 1)) < 0 {
			t.Errorf("half time %d, level %d: the decays %v of %d and %v of %d do not meet %v", half, level, x, a, y, b, both)
		}
	}
}
