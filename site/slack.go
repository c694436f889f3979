package site

import (
	"shotline/api"
	"shotline/check"
)

// SlackAt answers whether a current is slack at a minute, with a limit.
func SlackAt(t api.TideTable, minute, limit int) (int, api.Errno) {
	if e := check.First(CheckTide(t), checkMinute(minute), checkLimit(limit)); e != api.OK {
		return 0, e
	}
	return newTide(t).slack(minute, limit), api.OK
}

// SlackWindows returns the windows of a span in which a current is slack: surely, or perhaps.
func SlackWindows(t api.TideTable, a api.SlackAsk) ([]api.Range, api.Errno) {
	if e := check.First(CheckTide(t), checkLimit(a.Limit), checkSpan(a.Span)); e != api.OK {
		return nil, e
	}
	x := newTide(t)
	least := api.AnswerMaybe
	if a.Surely {
		least = api.AnswerYes
	}
	return windowsIn(a.Span, func(minute int) bool { return x.slack(minute, a.Limit) >= least })
}

// slack answers whether the level is from -limit to limit at a minute.
func (t *tide) slack(minute, limit int) int {
	level := t.level(minute)
	switch {
	case -limit <= level.Lo && level.Hi <= limit:
		return api.AnswerYes
	case level.Hi < -limit || limit < level.Lo:
		return api.AnswerNo
	}
	return api.AnswerMaybe
}
