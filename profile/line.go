package profile

import (
	"strconv"
	"strings"

	"shotline/api"
)

// lineDigits is the most digits of a number of a line.
const lineDigits = 10

// FormatPlanLine returns the line of a plan.
func FormatPlanLine(p api.DivePlan) string {
	words := append([]string{p.Name}, numerals(p.Surface, len(p.Gases))...)
	for _, g := range p.Gases {
		words = append(words, numerals(g.Oxygen, g.Helium)...)
	}
	for _, leg := range p.Legs {
		words = append(words, numerals(leg.Seconds, leg.Depth, leg.Gas)...)
	}
	return lineOf(words...)
}

// ParsePlanLine returns the plan with a line.
func ParsePlanLine(s string) (api.DivePlan, api.Errno) {
	p, ok := readPlanLine(s)
	if !ok {
		return api.DivePlan{}, api.ErrSyntax
	}
	if _, e := CheckPlan(p); e != api.OK {
		return api.DivePlan{}, e
	}
	return p, api.OK
}

// FormatPoints returns the line of a profile.
func FormatPoints(l []api.DivePoint) string {
	var words []string
	for _, x := range l {
		words = append(words, numerals(x.Second, x.Depth)...)
	}
	return lineOf(words...)
}

// ParsePoints returns the profile with a line.
func ParsePoints(s string) ([]api.DivePoint, api.Errno) {
	numbers, ok := numbersOf(s)
	if !ok || len(numbers)%2 != 0 {
		return nil, api.ErrSyntax
	}
	var points []api.DivePoint
	for i := 0; i < len(numbers); i += 2 {
		points = append(points, api.DivePoint{Second: numbers[i], Depth: numbers[i+1]})
	}
	if e := CheckPoints(points); e != api.OK {
		return nil, e
	}
	return points, api.OK
}

// readPlanLine returns what a line says, whether or not it is a right plan.
func readPlanLine(s string) (api.DivePlan, bool) {
	name, rest, _ := strings.Cut(s, " ")
	numbers, ok := numbersOf(rest)
	if !ok || len(numbers) < 2 {
		return api.DivePlan{}, false
	}
	p := api.DivePlan{Name: name, Surface: numbers[0]}
	gases, numbers := numbers[1], numbers[2:]
	if !within(gases, 0, len(numbers)/2) || (len(numbers)-2*gases)%3 != 0 {
		return api.DivePlan{}, false
	}
	for range gases {
		p.Gases = append(p.Gases, api.Gas{Oxygen: numbers[0], Helium: numbers[1]})
		numbers = numbers[2:]
	}
	for ; len(numbers) > 0; numbers = numbers[3:] {
		p.Legs = append(p.Legs, api.DiveLeg{Seconds: numbers[0], Depth: numbers[1], Gas: numbers[2]})
	}
	return p, true
}

// lineOf returns words with single blanks between.
func lineOf(words ...string) string {
	return strings.Join(words, " ")
}

// numerals returns numbers as words.
func numerals(numbers ...int) []string {
	var words []string
	for _, n := range numbers {
		words = append(words, strconv.Itoa(n))
	}
	return words
}

// numbersOf reads a line of one number at least.
func numbersOf(s string) ([]int, bool) {
	var numbers []int
	for _, word := range strings.Split(s, " ") {
		n, ok := readNumber(word, lineDigits)
		if !ok {
			return nil, false
		}
		numbers = append(numbers, n)
	}
	return numbers, true
}

// readNumber reads a number of at most so many digits.
func readNumber(s string, digits int) (int, bool) {
	if len(strings.TrimPrefix(s, "-")) > digits {
		return 0, false
	}
	n, err := strconv.Atoi(s)
	// A number has one text only, so "+1", "01" and "-0" are none.
	return n, err == nil && strconv.Itoa(n) == s
}
