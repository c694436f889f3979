package desk

import (
	"strconv"
	"strings"

	"shotline/api"
	"shotline/check"
	"shotline/kit"
	"shotline/lines"
	"shotline/mix"
	"shotline/profile"
)

const (
	// fixWord begins the text of a fix.
	fixWord = "fix"

	// The most digits of the day and the second of a dive, and of the number of a fix.
	diveDigits = 7
	fixDigits  = 3

	// diveWords is how many words stand ahead of the vessels of a dive.
	diveWords = 5
)

// said is the text of an entry, as its word and its rest, with the person who made it.
type said struct {
	by         api.DeskPerson
	word, rest string
}

// leastRoles returns by the words of entries the least role of those who may make them.
func leastRoles() map[string]int {
	return map[string]int{
		"fill":   api.RoleMixer,
		"kit":    api.RoleMixer,
		"plan":   api.RoleDiver,
		"dive":   api.RoleDiver,
		"record": api.RoleDiver,
		"sign":   api.RoleDiver,
		fixWord:  api.RoleMaster,
	}
}

// said returns what an entry says, or the error of its text, but for those of its rest.
func (w world) said(x api.DeskEntry) (said, api.Errno) {
	by, isPerson := w.person(x.By)
	word, rest, hasBlank := strings.Cut(x.Text, " ")
	role, isWord := leastRoles()[word]
	switch {
	case !isPerson:
		return said{}, api.ErrMissing
	case len(x.Text) > api.MaxDeskText:
		return said{}, api.ErrLarge
	case !hasBlank, strings.Contains(x.Text, "\n"):
		return said{}, api.ErrSyntax
	case !isWord:
		return said{}, api.ErrKind
	case by.Role < role:
		return said{}, api.ErrState
	}
	return said{by, word, rest}, api.OK
}

// fact returns what is said, if it is no fix, or the error of the rest of the text.
func (s said) fact() (fact, api.Errno) {
	switch s.word {
	case "fill":
		f, e := mix.ParseFill(s.rest)
		return fill{f}, e
	case "kit":
		v, e := kit.ParseEvent(s.rest)
		return event{v}, e
	case "plan":
		p, e := profile.ParsePlanLine(s.rest)
		return plan{p}, e
	case "dive":
		return s.dive()
	case "record":
		return s.record()
	}
	return sign{api.DeskSign{Dive: s.rest, By: s.by.Name}}, api.OK
}

func (s said) dive() (fact, api.Errno) {
	words := strings.Split(s.rest, " ")
	if len(words) <= diveWords {
		return nil, api.ErrSyntax
	}
	d := dive{by: s.by}
	d.Vessels = words[diveWords:]
	if !lines.Read(words[:diveWords], diveDigits, &d.Name, &d.Plan, &d.Diver, &d.Day, &d.Second) {
		return nil, api.ErrSyntax
	}
	return d, check.First(check.Name(d.Name), check.Range(d.Day, 0, api.MaxDay), check.Range(d.Second, 0, api.SecondsADay-1))
}

func (s said) record() (fact, api.Errno) {
	name, line, hasBlank := strings.Cut(s.rest, " ")
	if !hasBlank {
		return nil, api.ErrSyntax
	}
	points, e := profile.ParsePoints(line)
	return record{api.DeskRecord{Dive: name, Points: points}, s.by}, e
}

// fix returns the number and the text of a fix, or the error of the rest ahead of that of the fact.
func (s said) fix() (int, string, api.Errno) {
	numeral, text, hasBlank := strings.Cut(s.rest, " ")
	number, isNumber := lines.Number(numeral, fixDigits)
	switch {
	case !hasBlank, !isNumber:
		return 0, "", api.ErrSyntax
	case strings.HasPrefix(text, fixWord+" "):
		return 0, "", api.ErrKind
	}
	return number, text, api.OK
}

// lineOf returns words and numbers, or lists of numbers, with single blanks between.
func lineOf(parts ...any) string {
	var words []string
	for _, part := range parts {
		switch x := part.(type) {
		case string:
			words = append(words, x)
		case int:
			words = append(words, strconv.Itoa(x))
		case []int:
			for _, n := range x {
				words = append(words, strconv.Itoa(n))
			}
		}
	}
	return strings.Join(words, " ")
}
