package profile

import (
	"strconv"
	"strings"

	"shotline/api"
)

// Print returns the text of a plan.
func Print(p api.DivePlan) (string, api.Errno) {
	if _, e := CheckPlan(p); e != api.OK {
		return "", e
	}
	lines := []string{
		lineOf("plan", p.Name),
		lineOf("surface", strconv.Itoa(p.Surface)),
	}
	for _, g := range p.Gases {
		lines = append(lines, lineOf("gas", strconv.Itoa(g.Oxygen), strconv.Itoa(g.Helium)))
	}
	for _, leg := range p.Legs {
		lines = append(lines, lineOf("leg", timeText(leg.Seconds), depthText(leg.Depth), strconv.Itoa(leg.Gas)))
	}
	return strings.Join(lines, "\n") + "\n", api.OK
}

func timeText(seconds int) string {
	return strconv.Itoa(seconds/60) + ":" + twoDigits(seconds%60)
}

func depthText(depth int) string {
	metres := strconv.Itoa(depth / 100)
	if depth%100 == 0 {
		return metres
	}
	return metres + "." + strings.TrimSuffix(twoDigits(depth%100), "0")
}

func twoDigits(n int) string {
	return strconv.Itoa(100 + n)[1:]
}
