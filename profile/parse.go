package profile

import (
	"slices"

	"shotline/api"
	"shotline/gas"
)

// statement is the words of a line, and what those behind the first one are read as (0 for a name).
type statement struct {
	words   []word
	numbers [3]int
}

// draft is a plan as far as it is read, the second at which it ends, and the first word of its last line ("" ahead
// of all lines).
type draft struct {
	plan api.DivePlan
	end  int
	last string
}

// form is how the words behind the first one of a line are read, and what adds to a draft what the line says:
// beside an error it returns the number of the word to which this belongs.
type form struct {
	reads []func(string) (int, api.Errno)
	add   func(*draft, statement) (int, api.Errno)
}

// Parse returns the plan with a text.
func Parse(t string) (api.DivePlan, api.TextMark, api.Errno) {
	if len(t) > api.MaxText {
		return api.DivePlan{}, api.TextMark{}, api.ErrLarge
	}
	var d draft
	next := linesOf(t)
	line, number, ok := next()
	for ; ok; line, number, ok = next() {
		words := wordsOf(line)
		if len(words) == 0 {
			continue
		}
		if column, e := d.read(words); e != api.OK {
			return api.DivePlan{}, api.TextMark{Line: number, Column: column}, e
		}
	}
	if len(d.plan.Gases) == 0 {
		return api.DivePlan{}, api.TextMark{Line: number, Column: 1}, api.ErrMissing
	}
	return d.plan, api.TextMark{}, api.OK
}

// firstWords returns the words that may be the first one of a line, by the first word of the line before.
func firstWords() map[string][]string {
	return map[string][]string{
		"":        {"plan"},
		"plan":    {"surface"},
		"surface": {"gas"},
		"gas":     {"gas", "leg"},
		"leg":     {"leg"},
	}
}

// forms returns the forms of lines by their first word.
func forms() map[string]form {
	return map[string]form{
		"plan":    {[]func(string) (int, api.Errno){asName}, (*draft).addName},
		"surface": {[]func(string) (int, api.Errno){asNumber}, (*draft).addSurface},
		"gas":     {[]func(string) (int, api.Errno){asNumber, asNumber}, (*draft).addGas},
		"leg":     {[]func(string) (int, api.Errno){asTime, asDepth, asNumber}, (*draft).addLeg},
	}
}

// read reads a line with words into a draft; beside an error it returns the column of this.
func (d *draft) read(words []word) (int, api.Errno) {
	first := words[0]
	if !slices.Contains(firstWords()[d.last], first.text) {
		return first.column, api.ErrSyntax
	}
	f := forms()[first.text]
	s := statement{words: words}
	for i, as := range f.reads {
		if i+1 == len(words) {
			return behind(words[i]), api.ErrMissing
		}
		n, e := as(words[i+1].text)
		if e != api.OK {
			return words[i+1].column, e
		}
		s.numbers[i] = n
	}
	if rest := words[1+len(f.reads):]; len(rest) > 0 {
		return rest[0].column, api.ErrSyntax
	}
	k, e := f.add(d, s)
	if e != api.OK {
		return words[k].column, e
	}
	d.last = first.text
	return 0, api.OK
}

func (d *draft) addName(s statement) (int, api.Errno) {
	d.plan.Name = s.words[1].text
	return 0, api.OK
}

func (d *draft) addSurface(s statement) (int, api.Errno) {
	surface := s.numbers[0]
	if !within(surface, api.LeastAir, api.MostAir) {
		return 1, api.ErrRange
	}
	d.plan.Surface = surface
	return 0, api.OK
}

func (d *draft) addGas(s statement) (int, api.Errno) {
	if len(d.plan.Gases) == api.MaxGases {
		return 0, api.ErrLarge
	}
	g := api.Gas{Oxygen: s.numbers[0], Helium: s.numbers[1]}
	if e := gas.CheckGas(g); e != api.OK {
		return 0, e
	}
	d.plan.Gases = append(d.plan.Gases, g)
	return 0, api.OK
}

func (d *draft) addLeg(s statement) (int, api.Errno) {
	leg := api.DiveLeg{Seconds: s.numbers[0], Depth: s.numbers[1], Gas: s.numbers[2]}
	switch {
	case len(d.plan.Legs) == api.MaxLegs:
		return 0, api.ErrLarge
	case !within(leg.Seconds, 1, api.MaxSecond):
		return 1, api.ErrRange
	case d.end+leg.Seconds > api.MaxSecond:
		return 1, api.ErrLarge
	case !isDepth(leg.Depth):
		return 2, api.ErrRange
	case leg.Gas >= len(d.plan.Gases):
		return 3, api.ErrMissing
	}
	d.plan.Legs = append(d.plan.Legs, leg)
	d.end += leg.Seconds
	return 0, api.OK
}
