package day_test

import (
	"regexp"
	"slices"
	"strconv"
	"strings"
	"testing"

	"shotline/api"
	"shotline/day"
)

const harbourText = "rules 3 2 1 60 100\nslot am 0 60 2 1\nslot pm 120 180 2 1\ndiver ann 5 -1\ndiver bob 1 0\ndiver eve 1 -1\nwish 0 10 20 0 1\nwish 1 30 20 0\nwish 2 20 30 0 1\nwish 0 5 20 1\n"

// P9.8: the text of the example, both ways; and those of days with nothing, or with the greatest numbers.
func TestTexts(t *testing.T) {
	most := api.DayTask{
		Slots:  []api.DaySlot{{Name: "a-9", From: 2880, To: 2880, Seats: 20, Level: 20}},
		Divers: []api.DayDiver{{Name: "b", Level: 20, Buddy: -1}},
		Wishes: []api.DayWish{wish(0, 1000, 1000000), wish(0, 1, 0, 0)},
		Rules:  api.DayRules{Guide: 20, Novice: 19, Ratio: 18, Gap: 2880, Gas: 30000000},
	}
	for text, x := range map[string]api.DayTask{
		harbourText:         harbour(60),
		"rules 0 0 0 0 0\n": {},
		"rules 20 19 18 2880 30000000\nslot a-9 2880 2880 20 20\ndiver b 20 -1\nwish 0 1000 1000000\nwish 0 1 0 0\n": most,
		"rules 0 0 0 0 0\ndiver z 0 -1\nwish 0 1 0\n":                                                                {Divers: []api.DayDiver{{Name: "z", Buddy: -1}}, Wishes: []api.DayWish{wish(0, 1, 0)}},
	} {
		s, e := day.Print(x)
		expect(t, "Print", s, e, text, api.OK)
		y, n, e := day.Parse(text)
		expect(t, "Parse of "+text, y, e, x, api.OK)
		expect(t, "its number", n, e, 0, api.OK)
	}
}

// P9.8: lines that have none of the forms, and those in a wrong place.
func TestWrongLines(t *testing.T) {
	for _, test := range []struct {
		s string
		n int
	}{
		{"", 1},
		{"\n", 1},
		{"rules 3 2 1 60 100", 1},
		{"rules 3 2 1 60\n", 1},
		{"rules 3 2 1 60 100 0\n", 1},
		{"rules\n", 1},
		{"rules  2 1 60 100\n", 1},
		{"rules 3 2 1 60 100 \n", 1},
		{" rules 3 2 1 60 100\n", 1},
		{"Rules 3 2 1 60 100\n", 1},
		{"rule 3 2 1 60 100\n", 1},
		{"rules 3 2 1 60 +100\n", 1},
		{"rules 3 2 1 60 0100\n", 1},
		{"rules 3 2 1 60 -0\n", 1},
		{"rules 3 2 1 60 123456789\n", 1},
		{"rules 3 2 1 60 -123456789\n", 1},
		{"rules 3 2 1 60 99999999999999999999\n", 1},
		{"rules 3 2 1 60 x\n", 1},
		{"rules 3 2 1 60 100\r\n", 1},
		{"rules 3 2 1\t60 100\n", 1},
		{"slot am 0 60 2 1\n", 1},
		{"diver ann 5 -1\n", 1},
		{"wish 0 10 20\n", 1},
		{"slot am 0 60 2 1\nrules 3 2 1 60 100\n", 1},
		{"rules 3 2 1 60 100\n\n", 2},
		{"rules 3 2 1 60 100\n ", 2},
		{"rules 3 2 1 60 100\nboat am 0 60 2 1\n", 2},
		{"rules 3 2 1 60 100\nrules 3 2 1 60 100\n", 2},
		{"rules 3 2 1 60 100\nslot am 0 60 2\n", 2},
		{"rules 3 2 1 60 100\nslot am 0 60 2 1 1\n", 2},
		{"rules 3 2 1 60 100\nslot a m 0 60 2 1\n", 2},
		{"rules 3 2 1 60 100\nslot am 0 60 2 123456789\n", 2},
		{"rules 3 2 1 60 100\nslot am 0 60 2 1", 2},
		{"rules 3 2 1 60 100\nslot am 0 60 2 1\ndiver ann 5\n", 3},
		{"rules 3 2 1 60 100\nslot am 0 60 2 1\ndiver ann 5 -1 0\n", 3},
		{"rules 3 2 1 60 100\nslot am 0 60 2 1\ndiver ann 5 - 1\n", 3},
		{"rules 3 2 1 60 100\nslot am 0 60 2 1\nslot\n", 3},
		{"rules 3 2 1 60 100\ndiver ann 5 -1\nslot am 0 60 2 1\n", 3},
		{"rules 3 2 1 60 100\ndiver ann 5 -1\nwish 0 10\n", 3},
		{"rules 3 2 1 60 100\ndiver ann 5 -1\nwish 0 10 20 \n", 3},
		{"rules 3 2 1 60 100\ndiver ann 5 -1\nwish 0 10 20 0 \n", 3},
		{"rules 3 2 1 60 100\ndiver ann 5 -1\nwish 0 10 20 0  1\n", 3},
		{"rules 3 2 1 60 100\ndiver ann 5 -1\nwish 0 10 20 a\n", 3},
		{"rules 3 2 1 60 100\ndiver ann 5 -1\nwish ann 10 20\n", 3},
		{"rules 3 2 1 60 100\ndiver ann 5 -1\nwish\n", 3},
		{"rules 3 2 1 60 100\ndiver ann 5 -1\nwish 0 10 20 123456789\n", 3},
		{"rules 3 2 1 60 100\ndiver ann 5 -1\nwish 0 10 20\ndiver bob 1 -1\n", 4},
		{"rules 3 2 1 60 100\ndiver ann 5 -1\nwish 0 10 20\nslot am 0 60 2 1\n", 4},
		{"rules 3 2 1 60 100\ndiver ann 5 -1\nwish 0 10 20\nrules 3 2 1 60 100\n", 4},
		{"rules 3 2 1 60 100\ndiver ann 5 -1\nwish 0 10 20\nwish 0 10 20", 4},
		// A line is wrong ahead of a wrong day.
		{"rules 99 2 1 60 100\nslot  0 60 2 1\nwish 7 10 20\nslot am 0 60 2 1\n", 4},
		{strings.Repeat("\n", 60000), 1},
	} {
		x, n, e := day.Parse(test.s)
		refuse(t, "Parse of "+strconv.Quote(test.s[:min(200, len(test.s))]), x, e, api.ErrSyntax)
		expect(t, "its line", n, e, test.n, api.ErrSyntax)
	}
}

// P9.8: texts of days that are wrong, and of those that are too long.
func TestTextsOfWrongDays(t *testing.T) {
	const first = "rules 3 2 1 60 100\n"
	slots := func(n int) string {
		s := first
		for i := range n {
			s += "slot s" + strconv.Itoa(i) + " 0 60 2 1\n"
		}
		return s
	}
	long := func(n int) string { return first + "slot " + strings.Repeat("a", n-len(first)-14) + " 0 1 1 1\n" }
	for _, test := range []struct {
		s string
		e api.Errno
	}{
		{first + "wish 0 1 1\n", api.ErrMissing},
		{first + "slot  0 60 2 1\n", api.ErrName},
		{first + "slot a\tm 0 60 2 1\n", api.ErrName},
		{first + "slot \xff 0 60 2 1\n", api.ErrName},
		{first + "diver  5 -1\n", api.ErrName},
		{first + "diver 5 5 -1\n", api.ErrName},
		{first + "slot am 0 60 2 1\nslot am 0 60 2 1\n", api.ErrExists},
		{first + "slot am 60 0 2 1\n", api.ErrOrder},
		{first + "diver ann 5 0\n", api.ErrForm},
		{first + "slot am 0 60 2 1\ndiver ann 5 -1\nwish 0 10 20 0 0\n", api.ErrExists},
		{first + "slot am -1 60 2 1\n", api.ErrRange},
		{first + "slot am 0 99999999 2 1\n", api.ErrRange},
		{first + "diver ann 5 -1\nwish 0 -9999999 0\n", api.ErrRange},
		{"rules 3 2 1 60 -12345678\n", api.ErrRange},
		{"rules 3 2 1 60 30000001\n", api.ErrRange},
		{slots(8), api.OK},
		{slots(9), api.ErrLarge},
		{long(60000), api.ErrName},
		{long(60001), api.ErrLarge},
		{strings.Repeat("\n", 60001), api.ErrLarge},
	} {
		x, n, e := day.Parse(test.s)
		expect(t, "the number of "+strconv.Quote(test.s[:min(200, len(test.s))]), n, e, 0, test.e)
		if e != api.OK {
			refuse(t, "Parse", x, e, test.e)
		}
	}
}

// P9.8, P9.12, P3: what is printed is read back.
func TestTextsByChance(t *testing.T) {
	someDays(12, 400, 12, func(c chance, x api.DayTask) {
		s, e := day.Print(x)
		expect(t, "whether Print has an error", nil, e, nil, api.OK)
		y, n, e := day.Parse(s)
		expect(t, "Parse of "+s, y, e, x, api.OK)
		expect(t, "its number", n, e, 0, api.OK)
	})
}

// P9.8: texts that are changed somewhere, line by line by their forms.
func TestChangedTexts(t *testing.T) {
	const number = ` (0|-?[1-9][0-9]{0,7})`
	forms := []*regexp.Regexp{
		regexp.MustCompile(`^rules(` + number + `){5}\n$`),
		regexp.MustCompile(`^slot [^ \n]*(` + number + `){4}\n$`),
		regexp.MustCompile(`^diver [^ \n]*(` + number + `){2}\n$`),
		regexp.MustCompile(`^wish(` + number + `){3,}\n$`),
	}
	wrongLine := func(s string) int {
		last := 0
		for i, line := range slices.Collect(strings.SplitAfterSeq(s, "\n")) {
			if line == "" && i > 0 {
				return 0
			}
			kind := slices.IndexFunc(forms, func(form *regexp.Regexp) bool { return form.MatchString(line) })
			if kind < last || (i == 0) != (kind == 0) {
				return i + 1
			}
			last = kind
		}
		return 0
	}
	c := newChance(13)
	wrong := 0
	for range 20000 {
		s := harbourText
		for range c.from(1, 3) {
			at := c.Intn(len(s))
			end := min(len(s), at+c.Intn(3))
			s = s[:at] + []string{"", " ", "\n", "0", "-", "9", "a", "rules", "slot", "\nwish 0 1 1"}[c.Intn(10)] + s[end:]
		}
		x, n, e := day.Parse(s)
		if want := wrongLine(s); n != want || (e == api.ErrSyntax) != (want != 0) {
			t.Errorf("Parse of %q: line %d, error %d, want line %d", s, n, e, want)
		}
		if e == api.ErrSyntax {
			wrong++
		}
		if e == api.OK {
			again, e := day.Print(x)
			expect(t, "Print of what was read", again, e, s, api.OK)
		} else {
			refuse(t, "Parse of "+s, x, e, e)
		}
	}
	if wrong < 5000 || wrong > 19000 {
		t.Errorf("%d texts of 20000 were wrong", wrong)
	}
}
