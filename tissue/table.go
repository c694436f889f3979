package tissue

import (
	"shotline/api"
	"shotline/check"
	"shotline/lines"
)

const (
	mostBase   = 10000
	leastSlope = 1000
	mostSlope  = 10000

	// tableWord begins the line of a compartment, in which numbers have at most tableDigits digits.
	tableWord   = "tissue"
	tableDigits = 7
)

// CheckTable returns ErrShape if there are not from 1 to MaxTissues compartments, then the first error of one.
func CheckTable(t []api.Compartment) api.Errno {
	if !check.Within(len(t), 1, api.MaxTissues) {
		return api.ErrShape
	}
	return check.Each(t, checkCompartment)
}

// Print returns the text of a table.
func Print(t []api.Compartment) (string, api.Errno) {
	if e := CheckTable(t); e != api.OK {
		return "", e
	}
	text := ""
	for _, c := range t {
		text += lines.Join(tableWord, c.Nitrogen, c.Helium, c.Base, c.Slope) + "\n"
	}
	return text, api.OK
}

// Parse returns the table with a text; beside ErrSyntax the number of the line that is wrong.
func Parse(s string) ([]api.Compartment, int, api.Errno) {
	if len(s) > api.MaxText {
		return nil, 0, api.ErrLarge
	}
	var t []api.Compartment
	for number, words := range lines.Of(s) {
		c, ok := readCompartment(words)
		if !ok {
			return nil, number, api.ErrSyntax
		}
		t = append(t, c)
	}
	if e := CheckTable(t); e != api.OK {
		return nil, 0, e
	}
	return t, 0, api.OK
}

func checkCompartment(c api.Compartment) api.Errno {
	return check.First(
		check.Range(c.Nitrogen, 1, api.MaxHalf),
		check.Range(c.Helium, 1, api.MaxHalf),
		check.Range(c.Base, 0, mostBase),
		check.Range(c.Slope, leastSlope, mostSlope),
	)
}

// readCompartment returns what the words of a line say, whether or not it is a right compartment.
func readCompartment(words []string) (api.Compartment, bool) {
	if len(words) != 5 || words[0] != tableWord {
		return api.Compartment{}, false
	}
	n, ok := lines.Numbers(words[1:], tableDigits)
	if !ok {
		return api.Compartment{}, false
	}
	return api.Compartment{Nitrogen: n[0], Helium: n[1], Base: n[2], Slope: n[3]}, true
}
