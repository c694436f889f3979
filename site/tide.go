package site

import (
	"shotline/api"
	"shotline/check"
)

// tide is a right table, with what the cosines of its waves are worked out from.
type tide struct {
	api.TideTable
	halves halves
}

// CheckTide returns ErrRange for a wrong mean, ErrLarge for too many waves, then the first error of a wave.
func CheckTide(t api.TideTable) api.Errno {
	if e := check.Range(t.Mean, -api.MaxTideHeight, api.MaxTideHeight); e != api.OK {
		return e
	}
	if len(t.Waves) > api.MaxTideWaves {
		return api.ErrLarge
	}
	return check.Each(t.Waves, checkWave)
}

// AngleAt returns the angle of a wave at a minute.
func AngleAt(w api.TideWave, minute int) (api.Range, api.Errno) {
	if e := check.First(checkWave(w), checkMinute(minute)); e != api.OK {
		return api.Range{}, e
	}
	return angleAt(w, minute), api.OK
}

// LevelAt returns the level of a table at a minute.
func LevelAt(t api.TideTable, minute int) (api.Range, api.Errno) {
	if e := check.First(CheckTide(t), checkMinute(minute)); e != api.OK {
		return api.Range{}, e
	}
	return newTide(t).level(minute), api.OK
}

// Highest returns the first minute of a span at which the least number of the level is greatest.
func Highest(t api.TideTable, span api.Range) (int, api.Errno) {
	if e := check.First(CheckTide(t), checkSpan(span)); e != api.OK {
		return 0, e
	}
	x := newTide(t)
	highest, most := span.Lo, x.level(span.Lo).Lo
	for minute := span.Lo + 1; minute <= span.Hi; minute++ {
		if least := x.level(minute).Lo; least > most {
			highest, most = minute, least
		}
	}
	return highest, api.OK
}

func checkWave(w api.TideWave) api.Errno {
	return check.First(
		check.Range(w.Height, 0, api.MaxTideHeight),
		check.Range(w.Period, 1, api.MaxTidePeriod),
		checkAngle(w.Phase),
	)
}

func newTide(t api.TideTable) *tide {
	return &tide{t, halved()}
}

// angleAt returns the angle of a right wave at a minute.
func angleAt(w api.TideWave, minute int) api.Range {
	// In parts of a part, of which there are as many as the period has minutes, the angle is whole.
	parts := (w.Phase*w.Period + api.TideTurn*minute) % (api.TideTurn * w.Period)
	return api.Range{Lo: parts / w.Period, Hi: (parts + w.Period - 1) / w.Period}
}

// level returns the level at a minute.
func (t *tide) level(minute int) api.Range {
	var sum api.Range
	for _, w := range t.Waves {
		cosine := t.cosineAt(w, minute)
		sum.Lo += w.Height * cosine.Lo
		sum.Hi += w.Height * cosine.Hi
	}
	return api.Range{Lo: t.Mean + down(sum.Lo), Hi: t.Mean + up(sum.Hi)}
}

// cosineAt returns the cosine of a wave at a minute.
func (t *tide) cosineAt(w api.TideWave, minute int) api.Range {
	angle := angleAt(w, minute)
	a, b := t.halves.cosine(angle.Lo), t.halves.cosine(angle.Hi)
	return api.Range{Lo: min(a.Lo, b.Lo), Hi: max(a.Hi, b.Hi)}
}
