package exposure

import (
	"shotline/api"
	"shotline/lines"
)

// textDigits is the most digits of a number in a text.
const textDigits = 7

// textLine is a line of the text of rules: its first word, and where the numbers behind it are kept.
type textLine struct {
	word    string
	numbers []*int
}

// Print returns the text of rules.
func Print(r api.ExposureRules) (string, api.Errno) {
	if e := CheckRules(r); e != api.OK {
		return "", e
	}
	text := ""
	for _, line := range headOf(&r) {
		text += line.text()
	}
	for _, row := range r.Table {
		text += lineOf(&row).text()
	}
	return text, api.OK
}

// Parse returns the rules with a text; beside ErrSyntax the number of the line that is wrong or missing.
func Parse(s string) (api.ExposureRules, int, api.Errno) {
	if len(s) > api.MaxText {
		return api.ExposureRules{}, 0, api.ErrLarge
	}
	var r api.ExposureRules
	if number, ok := read(s, &r); !ok {
		return api.ExposureRules{}, number, api.ErrSyntax
	}
	if e := CheckRules(r); e != api.OK {
		return api.ExposureRules{}, 0, e
	}
	return r, 0, api.OK
}

// read reads a text into rules, whether or not they are right; if it is none, it returns the number of the line that is
// wrong or missing.
func read(s string, r *api.ExposureRules) (int, bool) {
	head := headOf(r)
	next := 1
	for number, words := range lines.Of(s) {
		next = number + 1
		if number <= len(head) {
			if !head[number-1].read(words) {
				return number, false
			}
			continue
		}
		var row api.OxygenRow
		if !lineOf(&row).read(words) {
			return number, false
		}
		r.Table = append(r.Table, row)
	}
	return next, next > len(head)
}

// headOf returns the lines of rules ahead of those of the table.
func headOf(r *api.ExposureRules) []textLine {
	return []textLine{
		{"oxygen", []*int{&r.Oxygen.Least, &r.Oxygen.Most}},
		{"limits", []*int{&r.Narcotic, &r.Dense}},
		{"breath", []*int{&r.Breath}},
		{"emergency", []*int{&r.Emergency, &r.Pause, &r.Ascent}},
	}
}

func lineOf(row *api.OxygenRow) textLine {
	return textLine{"row", []*int{&row.From, &row.Rate}}
}

// text returns a line with its end.
func (l textLine) text() string {
	var numbers []int
	for _, n := range l.numbers {
		numbers = append(numbers, *n)
	}
	return lines.Join(l.word, numbers...) + "\n"
}

// read keeps the numbers of words, and tells whether they are such a line.
func (l textLine) read(words []string) bool {
	if len(words) != 1+len(l.numbers) || words[0] != l.word {
		return false
	}
	numbers, ok := lines.Numbers(words[1:], textDigits)
	for i, n := range numbers {
		*l.numbers[i] = n
	}
	return ok
}
