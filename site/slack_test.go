package site_test

import (
	"math"
	"testing"

	"shotline/api"
	"shotline/site"
)

// P8.3: whether a current is slack at a minute.
func TestSlack(t *testing.T) {
	for _, test := range []struct{ minute, limit, want int }{
		{1024, 0, api.AnswerYes},
		{3072, 0, api.AnswerYes},
		{512, 700, api.AnswerNo},
		{512, 706, api.AnswerNo},
		{512, 707, api.AnswerMaybe},
		{512, 708, api.AnswerYes},
		{1536, 706, api.AnswerNo},
		{1536, 707, api.AnswerMaybe},
		{1536, 708, api.AnswerYes},
		{0, 999, api.AnswerNo},
		{0, 1000, api.AnswerYes},
		{2048, 999, api.AnswerNo},
		{2048, 1000, api.AnswerYes},
		{1023, 0, api.AnswerNo},
		{1023, 1, api.AnswerMaybe},
		{1023, 2, api.AnswerYes},
		{0, 10000000, api.AnswerYes},
		{1000000, 0, api.AnswerNo},
	} {
		n, e := site.SlackAt(flow(), test.minute, test.limit)
		expect(t, "SlackAt "+flat(test), n, e, test.want, api.OK)
	}
	// A range around 0 is wider than the limit 0.
	n, e := site.SlackAt(api.TideTable{Waves: []api.TideWave{{Height: 1, Period: 8192, Phase: 1023}}}, 3, 0)
	expect(t, "SlackAt around 0", n, e, api.AnswerMaybe, api.OK)
	for _, limit := range []int{math.MinInt, -1, 10000001, math.MaxInt} {
		n, e := site.SlackAt(flow(), 0, limit)
		refuse(t, "SlackAt", n, e, api.ErrRange)
		l, e := site.SlackWindows(flow(), api.SlackAsk{Limit: limit})
		refuse(t, "SlackWindows", l, e, api.ErrRange)
	}
	for _, minute := range []int{math.MinInt, -1, 1000001, math.MaxInt} {
		n, e := site.SlackAt(flow(), minute, 0)
		refuse(t, "SlackAt", n, e, api.ErrRange)
	}
}

// P8.3: windows of slack.
func TestSlackWindows(t *testing.T) {
	for _, test := range []struct {
		table  api.TideTable
		limit  int
		span   api.Range
		surely bool
		want   []api.Range
	}{
		{flow(), 0, from(1020, 1030), true, list(1024, 1024)},
		{flow(), 0, from(1020, 1030), false, list(1024, 1024)},
		{flow(), 1, from(1020, 1030), true, list(1024, 1024)},
		{flow(), 1, from(1020, 1030), false, list(1023, 1025)},
		{flow(), 2, from(1020, 1030), true, list(1023, 1025)},
		{flow(), 0, from(1025, 1030), false, nil},
		{flow(), 0, exactly(1024), true, list(1024, 1024)},
		{flow(), 707, from(0, 2000), true, list(513, 1535)},
		{flow(), 707, from(0, 2000), false, list(512, 1536)},
		{flow(), 1000, from(5, 2000), true, list(5, 2000)},
		{tide(), 99, from(0, 2999), false, nil},
		{ripple(), 199, from(2, 7), true, list(3, 3, 5, 5, 7, 7)},
		{ripple(), 0, from(999997, 1000000), true, list(999997, 999997, 999999, 999999)},
		{api.TideTable{}, 0, from(0, 2999), true, list(0, 2999)},
		{ripple(), 0, from(0, 119), true, comb(60, 1, 1, 2)},
		{ripple(), 0, from(1, 120), false, comb(60, 1, 1, 2)},
	} {
		l, e := site.SlackWindows(test.table, api.SlackAsk{Limit: test.limit, Span: test.span, Surely: test.surely})
		expect(t, "SlackWindows "+flat(test), l, e, test.want, api.OK)
	}
	for _, span := range []api.Range{from(0, 121), from(1, 121), from(0, 2999)} {
		for _, surely := range []bool{false, true} {
			l, e := site.SlackWindows(ripple(), api.SlackAsk{Span: span, Surely: surely})
			refuse(t, "SlackWindows "+flat(span), l, e, api.ErrLarge)
		}
	}
	for span, wanted := range wrongSpans() {
		l, e := site.SlackWindows(flow(), api.SlackAsk{Limit: 1000, Span: span})
		var want []api.Range
		if wanted == api.OK {
			want = []api.Range{span}
		}
		expect(t, "SlackWindows "+flat(span), l, e, want, wanted)
	}
}

// P8.3, P8.10: windows by the definition; what is surely slack is perhaps slack, and with a greater limit, too.
func TestSlackByChance(t *testing.T) {
	c := newChance(5)
	for range 150 {
		table, first := c.current(), c.upTo(990000)
		span := from(first, first+c.Intn(500))
		levels := map[int]api.Range{}
		for minute := span.Lo; minute <= span.Hi; minute++ {
			levels[minute] = levelOf(t, table, minute)
		}
		var last [2][]api.Range
		for _, limit := range []int{0, 1, c.from(2, 40), c.from(41, 200), 3000} {
			var both [2][]api.Range
			for i, surely := range []bool{true, false} {
				l, e := site.SlackWindows(table, api.SlackAsk{Limit: limit, Span: span, Surely: surely})
				want, wanted := windowsWhere(span, func(minute int) bool {
					answer := slackOf(levels[minute], limit)
					return answer == api.AnswerYes || answer == api.AnswerMaybe && !surely
				})
				expect(t, "SlackWindows "+flat(table)+flat(span), l, e, want, wanted)
				both[i] = l
				if e == api.OK && !lieIn(last[i], l) {
					t.Errorf("of %+v with %d in %v: %v, though %v with less", table, limit, span, l, last[i])
				}
			}
			if !lieIn(both[0], both[1]) {
				t.Errorf("of %+v with %d in %v: %v surely, %v perhaps", table, limit, span, both[0], both[1])
			}
			last = both
		}
		minute, limit := c.from(span.Lo, span.Hi), c.Intn(200)
		n, e := site.SlackAt(table, minute, limit)
		expect(t, "SlackAt "+flat(table)+flat(minute), n, e, slackOf(levels[minute], limit), api.OK)
	}
}
