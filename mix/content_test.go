package mix_test

import (
	"testing"

	"shotline/api"
	"shotline/mix"
)

// contentTests are contents, and their errors.
func contentTests() map[api.MixContent]api.Errno {
	return map[api.MixContent]api.Errno{
		{}:                                       api.OK,
		content(1, 2, 3):                         api.OK,
		content(1000000000, 0, 0):                api.OK,
		content(0, 1000000000, 0):                api.OK,
		content(0, 0, 1000000000):                api.OK,
		content(333333333, 333333333, 333333334): api.OK,
		content(333333333, 333333334, 333333334): api.ErrRange,
		content(1000000000, 0, 1):                api.ErrRange,
		content(1, 0, 1000000000):                api.ErrRange,
		content(1000000001, 0, 0):                api.ErrRange,
		content(0, 1000000001, 0):                api.ErrRange,
		content(0, 0, 1000000001):                api.ErrRange,
		content(-1, 2, 3):                        api.ErrRange,
		content(1, -1, 3):                        api.ErrRange,
		content(1, 2, -1):                        api.ErrRange,
		content(1<<62, 1<<62, 1<<62):             api.ErrRange,
		content(1<<62, 1<<62, -1<<63):            api.ErrRange,
	}
}

// P6.2: shares; what is missing comes from the gases with the greatest rests.
func TestShare(t *testing.T) {
	for _, test := range []struct {
		c, want api.MixContent
		amount  int
	}{
		{content(3, 3, 4), content(2, 1, 2), 5},
		{content(3, 3, 4), content(0, 0, 0), 0},
		{content(3, 3, 4), content(0, 0, 1), 1},
		{content(3, 3, 4), content(3, 3, 4), 10},
		{content(1, 1, 1), content(1, 0, 0), 1},
		{content(1, 1, 1), content(1, 1, 0), 2},
		{content(1, 2, 2), content(0, 1, 0), 1},
		{content(2, 1, 2), content(1, 0, 0), 1},
		{content(2, 1, 2), content(1, 0, 1), 2},
		{content(1, 2, 2), content(1, 1, 1), 3},
		{content(0, 5, 5), content(0, 1, 0), 1},
		{content(0, 0, 7), content(0, 0, 7), 7},
		{content(0, 0, 7), content(0, 0, 3), 3},
		{content(0, 7, 0), content(0, 6, 0), 6},
		{content(0, 0, 0), content(0, 0, 0), 0},
		{content(210, 0, 790), content(21, 0, 79), 100},
		{content(210, 0, 790), content(0, 0, 1), 1},
		{content(210, 0, 790), content(0, 0, 2), 2},
		{content(210, 0, 790), content(1, 0, 2), 3},
		{content(333333333, 333333333, 333333334), content(333333333, 333333333, 333333333), 999999999},
		{content(1000000000, 0, 0), content(1000000000, 0, 0), 1000000000},
	} {
		got, e := mix.Share(test.c, test.amount)
		expect(t, flat(test.c), got, e, test.want, api.OK)
		expect(t, flat(test.c)+" (the test)", shareOf(test.c, test.amount), api.OK, test.want, api.OK)
	}
	for c, wanted := range contentTests() {
		got, e := mix.Share(c, 0)
		refuse(t, flat(c), got, e, wanted)
		for _, amount := range []int{-1, sumOf(c) + 1} {
			got, e := mix.Share(c, amount)
			refuse(t, flat(c), got, e, api.ErrRange)
		}
	}
}

// P6.2, P6.8: a share has its amount, and of each gas no more than there is; a content is its share of all.
func TestShareByChance(t *testing.T) {
	c := newChance(1)
	for range 20000 {
		x := c.content(1 << c.from(0, 29))
		amount := c.Intn(sumOf(x) + 1)
		share, e := mix.Share(x, amount)
		expect(t, flat(x), share, e, shareOf(x, amount), api.OK)
		rest := minus(x, share)
		if sumOf(share) != amount || min(share.Oxygen, share.Helium, share.Nitrogen, rest.Oxygen, rest.Helium, rest.Nitrogen) < 0 {
			t.Fatalf("a share of %d of %+v: %+v", amount, x, share)
		}
		share, e = mix.Share(x, sumOf(x))
		expect(t, flat(x), share, e, x, api.OK)
	}
}
