package ascent_test

import (
	"slices"
	"strings"
	"testing"

	"shotline/api"
	"shotline/ascent"
)

const sampleText = "leg 60 500 0 0\nleg 600 500 0 0\nleg 60 0 0 0\n"

// P4.7, P4.11: schedules are printed and read back.
func TestTexts(t *testing.T) {
	ends := api.AscentSchedule{Legs: []api.DiveLeg{{Seconds: 100000, Depth: 30000, Gas: 8}, {Seconds: 1}}, Fines: []int{6, 0}}
	most := api.AscentSchedule{Legs: slices.Repeat(ends.Legs, 200), Fines: slices.Repeat(ends.Fines, 200)}
	for text, want := range map[string]api.AscentSchedule{
		"":                                    {},
		sampleText:                            sampleSchedule(),
		"leg 100000 30000 8 6\nleg 1 0 0 0\n": ends,
		strings.Repeat("leg 100000 30000 8 6\nleg 1 0 0 0\n", 200): most,
		"leg 1 2 3 4\n": {Legs: []api.DiveLeg{{Seconds: 1, Depth: 2, Gas: 3}}, Fines: []int{4}},
	} {
		s, e := ascent.Print(want)
		expect(t, "Print", s, e, text, api.OK)
		x, n, e := ascent.Parse(text)
		expect(t, "Parse", x, e, want, api.OK)
		expect(t, "the line", n, e, 0, api.OK)
	}
	someSchedules(t, 200, func(_ api.AscentTask, s api.AscentSchedule) {
		text, e := ascent.Print(s)
		if e != api.OK {
			t.Fatalf("%+v: error %d", s, e)
		}
		x, n, e := ascent.Parse(text)
		expect(t, text, x, e, s, api.OK)
		expect(t, text, n, e, 0, api.OK)
	})
}

// P4.7: texts of no schedule.
func TestWrongTexts(t *testing.T) {
	type wrong struct {
		text string
		line int
		e    api.Errno
	}
	const first = "leg 60 500 0 0\n"
	tests := []wrong{
		{"\n", 1, api.ErrSyntax},
		{first[:len(first)-1], 1, api.ErrSyntax},
		{first + "\n", 2, api.ErrSyntax},
		{first + first + "leg 1 0 0 0", 3, api.ErrSyntax},
		{first + "leg 60 500 0\nx\n", 2, api.ErrSyntax},
		{"leg 0 0 0 0\nx\n", 2, api.ErrSyntax},
		{"leg 0 0 0 0\n", 0, api.ErrRange},
		{"leg 100001 0 0 0\n", 0, api.ErrRange},
		{first + "leg 1 -1 0 0\n", 0, api.ErrRange},
		{first + "leg 1 30001 0 0\n", 0, api.ErrRange},
		{"leg 1 0 9 0\n", 0, api.ErrRange},
		{"leg 1 0 -1 0\n", 0, api.ErrRange},
		{"leg 1 0 0 7\n", 0, api.ErrRange},
		{"leg 1 0 0 -1\n", 0, api.ErrRange},
		{"leg 9999999 0 0 0\n", 0, api.ErrRange},
		{"leg 1 -9999999 0 0\n", 0, api.ErrRange},
		{"leg 10000000 0 0 0\n", 1, api.ErrSyntax},
		{"leg 1 -10000000 0 0\n", 1, api.ErrSyntax},
		{strings.Repeat(first, 401), 0, api.ErrLarge},
		{strings.Repeat(first, 401) + "leg 0 0 0 0\n", 0, api.ErrLarge},
		{strings.Repeat(first, 401) + "x\n", 402, api.ErrSyntax},
		{strings.Repeat(first, 4000), 0, api.ErrLarge},
		{strings.Repeat(first, 4000)[1:] + "x", 1, api.ErrSyntax},
		{strings.Repeat(first, 4000) + "x", 0, api.ErrLarge},
		{strings.Repeat("x", 60000), 1, api.ErrSyntax},
		{strings.Repeat("x", 60001), 0, api.ErrLarge},
	}
	for _, line := range []string{"leg", "leg 1 0 0", "leg 1 0 0 ", "leg  1 0 0 0", "leg 1 0 0 0 ", " leg 1 0 0 0", "leg 1 0 0 0 0", "Leg 1 0 0 0", "legs 1 0 0 0", "1 0 0 0",
		"leg\t1 0 0 0", "leg 01 0 0 0", "leg 1 +1 0 0", "leg 1 0 -0 0", "leg 1 0 0 0\r", "leg 1 0 0 1e3", "leg 1 x 0 0", "leg - 0 0 0", "tissue 1 0 0 0"} {
		tests = append(tests, wrong{line + "\n", 1, api.ErrSyntax}, wrong{first + line + "\n" + first, 2, api.ErrSyntax})
	}
	for _, test := range tests {
		x, n, e := ascent.Parse(test.text)
		what := test.text[:min(60, len(test.text))]
		refuse(t, what, x, e, test.e)
		expect(t, what+" (line)", n, e, test.line, test.e)
	}
}
