package ascent

import (
	"shotline/api"
	"shotline/lines"
)

const (
	// legWord begins the line of a leg, in which numbers have at most legDigits digits.
	legWord   = "leg"
	legDigits = 7
)

// legNumbers are the numbers of a line: the seconds, the depth and the gas of a leg, and its fineness.
type legNumbers [4]int

// Print returns the text of a schedule.
func Print(s api.AscentSchedule) (string, api.Errno) {
	if e := checkAlone(s); e != api.OK {
		return "", e
	}
	text := ""
	for i, leg := range s.Legs {
		n := legNumbers{leg.Seconds, leg.Depth, leg.Gas, s.Fines[i]}
		text += lines.Join(legWord, n[:]...) + "\n"
	}
	return text, api.OK
}

// Parse returns the schedule with a text; beside ErrSyntax the number of the line that is wrong.
func Parse(s string) (api.AscentSchedule, int, api.Errno) {
	if len(s) > api.MaxText {
		return api.AscentSchedule{}, 0, api.ErrLarge
	}
	var read api.AscentSchedule
	for number, words := range lines.Of(s) {
		n, ok := readLeg(words)
		if !ok {
			return api.AscentSchedule{}, number, api.ErrSyntax
		}
		read.Legs = append(read.Legs, api.DiveLeg{Seconds: n[0], Depth: n[1], Gas: n[2]})
		read.Fines = append(read.Fines, n[3])
	}
	if e := checkAlone(read); e != api.OK {
		return api.AscentSchedule{}, 0, e
	}
	return read, 0, api.OK
}

// readLeg returns the numbers of a line, whether or not they are those of a right leg.
func readLeg(words []string) (legNumbers, bool) {
	if len(words) != 1+len(legNumbers{}) || words[0] != legWord {
		return legNumbers{}, false
	}
	n, ok := lines.Numbers(words[1:], legDigits)
	if !ok {
		return legNumbers{}, false
	}
	return legNumbers(n), true
}
