package exposure

import (
	"shotline/api"
	"shotline/check"
	"shotline/gas"
)

// mostDense is the greatest density that is a limit, in milligrams for a litre.
const mostDense = 100000

// CheckRules returns the first error of the table, of the limits, and of the numbers of an emergency.
func CheckRules(r api.ExposureRules) api.Errno {
	return check.First(
		checkTable(r.Table),
		gas.CheckLimits(r.Oxygen),
		check.Range(r.Narcotic, 0, api.MaxDepth),
		check.Range(r.Dense, 1, mostDense),
		checkBreath(r.Breath),
		checkBreath(r.Emergency),
		check.Range(r.Pause, 0, api.MaxPause),
		check.Range(r.Ascent, 1, api.MaxAscent),
	)
}

func checkTable(t []api.OxygenRow) api.Errno {
	if len(t) > api.MaxOxygenRows {
		return api.ErrLarge
	}
	for i, row := range t {
		if !check.Within(row.From, 0, api.MaxOxygen) || !check.Within(row.Rate, 0, api.MaxOxygenRate) {
			return api.ErrRange
		}
		if i > 0 && row.From <= t[i-1].From {
			return api.ErrOrder
		}
	}
	return api.OK
}

func checkBreath(breath int) api.Errno {
	return check.Range(breath, 1, api.MaxBreath)
}
