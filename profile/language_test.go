package profile_test

import (
	"slices"
	"strings"
	"testing"

	"shotline/api"
	"shotline/profile"
)

const reefText = "plan p\nsurface 1013\ngas 210 0\ngas 500 0\nleg 1:00 18 0\nleg 10:00 18 0\nleg 2:00 6 0\nleg 5:00 6 1\n"

// P2.5: the text of the example, times, and depths with as few digits as possible.
func TestPrint(t *testing.T) {
	s, e := profile.Print(reef())
	expect(t, "Print", s, e, reefText, api.OK)
	s, e = profile.Print(dive())
	expect(t, "Print without legs", s, e, "plan d\nsurface 1000\ngas 210 0\ngas 500 0\ngas 210 0\n", api.OK)
	for _, c := range []struct {
		leg  api.DiveLeg
		want string
	}{
		{api.DiveLeg{Seconds: 1, Depth: 0, Gas: 2}, "0:01 0 2"},
		{api.DiveLeg{Seconds: 59, Depth: 1}, "0:59 0.01 0"},
		{api.DiveLeg{Seconds: 60, Depth: 10}, "1:00 0.1 0"},
		{api.DiveLeg{Seconds: 61, Depth: 99}, "1:01 0.99 0"},
		{api.DiveLeg{Seconds: 70, Depth: 100}, "1:10 1 0"},
		{api.DiveLeg{Seconds: 3600, Depth: 1805}, "60:00 18.05 0"},
		{api.DiveLeg{Seconds: 3599, Depth: 1850}, "59:59 18.5 0"},
		{api.DiveLeg{Seconds: 600, Depth: 1855}, "10:00 18.55 0"},
		{api.DiveLeg{Seconds: 1000000, Depth: 30000}, "16666:40 300 0"},
		{api.DiveLeg{Seconds: 999999, Depth: 29990}, "16666:39 299.9 0"},
	} {
		p := dive(c.leg)
		s, e := profile.Print(p)
		want := text("plan d", "surface 1000", "gas 210 0", "gas 500 0", "gas 210 0", "leg "+c.want)
		expect(t, "Print "+flat(c.leg), s, e, want, api.OK)
		expect(t, "Parse "+c.want, mustParse(t, want), api.OK, p, api.OK)
	}
}

// P2.11: Parse undoes Print.
func TestParsePrinted(t *testing.T) {
	back := func(p api.DivePlan) {
		s, e := profile.Print(p)
		if e != api.OK {
			t.Fatalf("Print(%v): error %d", p, e)
		}
		expect(t, "Parse "+s, mustParse(t, s), api.OK, p, api.OK)
	}
	somePlans(300, back)
	back(reef())
	back(manyLegs())
}

// P2.5, P2.11: comments, blanks, tabs, lines without words, and a text that ends without a line feed.
func TestParseBlanks(t *testing.T) {
	for _, s := range []string{
		reefText,
		strings.TrimSuffix(reefText, "\n"),
		reefText + "\n\n",
		reefText + " \t",
		reefText + "; end",
		";plan q\n\n \t \n; a reef\n\t" + reefText,
		strings.ReplaceAll(reefText, " ", "\t \t"),
		strings.ReplaceAll(reefText, "\n", " \t\n\n"),
		strings.ReplaceAll(reefText, "\n", ";leg 1:00 18 0;;\n"),
		strings.ReplaceAll(reefText, "\n", " ; x\n;\n"),
		strings.ReplaceAll(reefText, "\n", "\n  "),
		strings.Replace(reefText, "plan p", "plan p;\x00\xff\r", 1),
	} {
		expect(t, "Parse "+s, mustParse(t, s), api.OK, reef(), api.OK)
	}
	expect(t, "Parse without legs", mustParse(t, "plan d\nsurface 1000\ngas 210 0\ngas 500 0\ngas 210 0"), api.OK, dive(), api.OK)
	expect(t, "Parse of words of the language as names", mustParse(t, "plan plan\nsurface 400\ngas 0 0"), api.OK, api.DivePlan{Name: "plan", Surface: 400, Gases: []api.Gas{{}}}, api.OK)
}

// wrongText is a text with the mark and the error that come first.
type wrongText struct {
	text         string
	line, column int
	want         api.Errno
}

func refuseTexts(t *testing.T, list []wrongText) {
	t.Helper()
	for _, c := range list {
		p, m, e := profile.Parse(c.text)
		refuse(t, "Parse "+c.text, p, e, c.want)
		if want := (api.TextMark{Line: c.line, Column: c.column}); m != want {
			t.Errorf("Parse(%q): %v, want %v", c.text, m, want)
		}
	}
}

// P2.5: the first word of each line, and lines that are missing.
func TestParseFirstWords(t *testing.T) {
	refuseTexts(t, []wrongText{
		{"surface 1013\n", 1, 1, api.ErrSyntax},
		{"\n ; x\n\t gas 1 1", 3, 3, api.ErrSyntax},
		{"leg 1:00 18 0\n", 1, 1, api.ErrSyntax},
		{"Plan p\n", 1, 1, api.ErrSyntax},
		{"plan\r p\n", 1, 1, api.ErrSyntax},
		{"planp\n", 1, 1, api.ErrSyntax},
		{"plan p\nplan q\n", 2, 1, api.ErrSyntax},
		{"plan p\n gas 210 0\n", 2, 2, api.ErrSyntax},
		{"plan p\nx", 2, 1, api.ErrSyntax},
		{"plan p\nsurface 1013\nsurface 1013\n", 3, 1, api.ErrSyntax},
		{"plan p\nsurface 1013\n\n  leg 1:00 18 0\n", 4, 3, api.ErrSyntax},
		{"plan p\nsurface 1013\ngas 210 0\nplan q\n", 4, 1, api.ErrSyntax},
		{"plan p\nsurface 1013\ngas 210 0\nsurface 1013\n", 4, 1, api.ErrSyntax},
		{"plan p\nsurface 1013\ngas 210 0\nlegs 1:00 18 0\n", 4, 1, api.ErrSyntax},
		{"plan p\nsurface 1013\ngas 210 0\nleg 1:00 18 0\n gas 500 0\n", 5, 2, api.ErrSyntax},
		{"plan p\nsurface 1013\ngas 210 0\nleg 1:00 18 0\nplan p\n", 5, 1, api.ErrSyntax},
		{"plan p\nsurface 1013\ngas 210 0\nleg 1:00 18 0\nsurface 1013\n", 5, 1, api.ErrSyntax},
		{"plan p\nsurface 1013\ngas 210 0\nleg 1:00 18 0\n0", 5, 1, api.ErrSyntax},
		{"", 1, 1, api.ErrMissing},
		{"\n", 2, 1, api.ErrMissing},
		{" ", 2, 1, api.ErrMissing},
		{"; plan p", 2, 1, api.ErrMissing},
		{"\n\n;x\n\t", 5, 1, api.ErrMissing},
		{"plan p", 2, 1, api.ErrMissing},
		{"plan p\n", 2, 1, api.ErrMissing},
		{"plan p\n\n", 3, 1, api.ErrMissing},
		{"plan p\nsurface 1013", 3, 1, api.ErrMissing},
		{"plan p\nsurface 1013\n;gas 210 0\n", 4, 1, api.ErrMissing},
	})
}

// P2.5: words that are missing, of another form, or too many, one word after the other.
func TestParseWords(t *testing.T) {
	refuseTexts(t, []wrongText{
		{"plan", 1, 5, api.ErrMissing},
		{" plan  ;p", 1, 6, api.ErrMissing},
		{"plan 1\n", 1, 6, api.ErrName},
		{"plan  abcdefghijklm", 1, 7, api.ErrName},
		{"plan p\r\n", 1, 6, api.ErrName},
		{"plan p q", 1, 8, api.ErrSyntax},
		{"plan 1 q", 1, 6, api.ErrName},
		{"plan p\nsurface", 2, 8, api.ErrMissing},
		{"plan p\nsurface \t\n", 2, 8, api.ErrMissing},
		{"plan p\nsurface 1e3\n", 2, 9, api.ErrSyntax},
		{"plan p\nsurface 10000000\n", 2, 9, api.ErrSyntax},
		{"plan p\nsurface 1013 1\n", 2, 14, api.ErrSyntax},
		{"plan p\nsurface 1 1\n", 2, 11, api.ErrSyntax},
		{"plan p\nsurface 1013\ngas", 3, 4, api.ErrMissing},
		{"plan p\nsurface 1013\n gas  210 ", 3, 10, api.ErrMissing},
		{"plan p\nsurface 1013\ngas x", 3, 5, api.ErrSyntax},
		{"plan p\nsurface 1013\ngas 9999999", 3, 12, api.ErrMissing},
		{"plan p\nsurface 1013\ngas 1001 x", 3, 10, api.ErrSyntax},
		{"plan p\nsurface 1013\ngas 1001 0 0", 3, 12, api.ErrSyntax},
	})
	ahead := "plan p\nsurface 1013\ngas 210 0\n"
	refuseTexts(t, []wrongText{
		{ahead + "leg", 4, 4, api.ErrMissing},
		{ahead + "leg 1:00", 4, 9, api.ErrMissing},
		{ahead + "leg 1:00 18 ; 0", 4, 12, api.ErrMissing},
		{ahead + "leg 1:0;0 18 0", 4, 5, api.ErrSyntax},
		{ahead + "leg 1:60", 4, 5, api.ErrSyntax},
		{ahead + "leg 0:00 x y", 4, 10, api.ErrSyntax},
		{ahead + "leg 0:00 18. y", 4, 10, api.ErrSyntax},
		{ahead + "leg 0:00 18 y", 4, 13, api.ErrSyntax},
		{ahead + "leg 0:00 300.01", 4, 16, api.ErrMissing},
		{ahead + "leg 0:00 300.01 9 0", 4, 19, api.ErrSyntax},
		{ahead + "leg 1:00 18 0 \t0 x", 4, 16, api.ErrSyntax},
		{ahead + "leg 1:00 18 0\nleg 1:00 18 0 1", 5, 15, api.ErrSyntax},
	})
}

// P2.5: what is no number, no time, and no depth.
func TestParseNumbers(t *testing.T) {
	for _, word := range []string{"01", "00", "-3", "-0", "+3", "1.0", "1e3", "0x1", "1_0", "12345678", "99999999999999999999", "a", "3m", "٣", "-"} {
		refuseTexts(t, []wrongText{
			{"plan p\nsurface " + word, 2, 9, api.ErrSyntax},
			{"plan p\nsurface 1013\ngas " + word + " 0", 3, 5, api.ErrSyntax},
			{"plan p\nsurface 1013\ngas 0 " + word, 3, 7, api.ErrSyntax},
			{"plan p\nsurface 1013\ngas 210 0\nleg 1:00 18 " + word, 4, 13, api.ErrSyntax},
		})
	}
	for _, word := range []string{"5:5", "5:60", "5", "5:", ":", ":05", "5:005", "05:00", "-5:00", "+5:00", "5:-1", "5:+1", "5:1x", "1:00:00", "12345678:00", "5.00", "5:0 ", "5 :00", "5:/0", "5:0/"} {
		refuseTexts(t, []wrongText{{"plan p\nsurface 1013\ngas 210 0\nleg " + word + " 18 0", 4, 5, api.ErrSyntax}})
	}
	for _, word := range []string{"18.", "18.505", "-3", ".", ".5", "018", "18,5", "18.-1", "18.+1", "18.x", "18.5.", "1.5.5", "+18", "12345678", "18.5m", "-0", "18:50", "00.5", "18./", "18.0:"} {
		refuseTexts(t, []wrongText{{"plan p\nsurface 1013\ngas 210 0\nleg 1:00 " + word + " 0", 4, 10, api.ErrSyntax}})
	}
	for word, want := range map[string]int{"0": 0, "0.0": 0, "0.00": 0, "0.5": 50, "0.05": 5, "18.50": 1850, "300.00": 30000, "299.99": 29999} {
		p := mustParse(t, "plan p\nsurface 1013\ngas 210 0\nleg 1:00 "+word+" 0")
		expect(t, "Parse of the depth "+word, p.Legs, api.OK, []api.DiveLeg{{Seconds: 60, Depth: want}}, api.OK)
	}
	for word, want := range map[string]int{"0:01": 1, "0:59": 59, "16666:40": 1000000, "9:09": 549} {
		p := mustParse(t, "plan p\nsurface 1013\ngas 210 0\nleg "+word+" 1 0")
		expect(t, "Parse of the time "+word, p.Legs, api.OK, []api.DiveLeg{{Seconds: want, Depth: 100}}, api.OK)
	}
}

// P2.5: what a right line says, at its word, in the order of the errors.
func TestParseLimits(t *testing.T) {
	ahead := "plan p\nsurface 1013\ngas 210 0\n"
	refuseTexts(t, []wrongText{
		{"plan p\nsurface 99\n", 2, 9, api.ErrRange},
		{"plan p\nsurface 399\n", 2, 9, api.ErrRange},
		{"plan p\n surface  1101\n", 2, 11, api.ErrRange},
		{"plan p\nsurface 9999999\nx", 2, 9, api.ErrRange},
		{"plan p\nsurface 1013\ngas 1001 0\n", 3, 1, api.ErrRange},
		{"plan p\nsurface 1013\n  gas 0 1001\n", 3, 3, api.ErrRange},
		{"plan p\nsurface 1013\ngas 600 401\n", 3, 1, api.ErrSum},
		{ahead + "leg 0:00 300.01 1", 4, 5, api.ErrRange},
		{ahead + "leg 16666:41 300.01 1", 4, 5, api.ErrRange},
		{ahead + "leg 9999999:59 0 0", 4, 5, api.ErrRange},
		{ahead + "leg  0:01  300.01 1", 4, 12, api.ErrRange},
		{ahead + "leg 0:01 9999999.99 1", 4, 10, api.ErrRange},
		{ahead + "leg 0:01 300 1", 4, 14, api.ErrMissing},
		{ahead + "leg 0:01 300 9999999", 4, 14, api.ErrMissing},
		{ahead + "leg 16666:40 300 0\nleg 0:01 300.01 1", 5, 5, api.ErrLarge},
		{ahead + "leg 16666:39 300 0\nleg 0:02 300.01 1", 5, 5, api.ErrLarge},
		{ahead + "leg 16666:39 300 0\nleg 0:00 300.01 1", 5, 5, api.ErrRange},
		{ahead + "leg 16666:39 300 0\nleg 16666:41 300.01 1", 5, 5, api.ErrRange},
		{ahead + "leg 0:01 300 1\nleg 0:00 300 0", 4, 14, api.ErrMissing},
	})
	for _, surface := range []string{"400", "1100"} {
		mustParse(t, "plan p\nsurface "+surface+"\ngas 0 0")
	}
	mustParse(t, ahead+"leg 16666:39 300 0\nleg 0:01 300 0")
}

// P2.5: as many gases and legs as there may be, and one more.
func TestParseMany(t *testing.T) {
	lines := append([]string{"plan p", "surface 1013"}, slices.Repeat([]string{"gas 600 400"}, 8)...)
	mustParse(t, text(lines...))
	nine := text(lines...)
	refuseTexts(t, []wrongText{
		{nine + " gas 0 0", 11, 2, api.ErrLarge},
		{nine + "gas 1001 0", 11, 1, api.ErrLarge},
		{nine + "gas 1001 x", 11, 10, api.ErrSyntax},
		{nine + "leg 0:01 0 8", 11, 12, api.ErrMissing},
	})
	lines = append(lines, slices.Repeat([]string{"leg 0:01 300 7"}, 60)...)
	full := text(lines...)
	mustParse(t, full)
	refuseTexts(t, []wrongText{
		{full + "\n leg 0:01 0 0", 72, 2, api.ErrLarge},
		{full + "leg 0:00 301 8", 71, 1, api.ErrLarge},
		{full + "leg 0:00 301 x", 71, 14, api.ErrSyntax},
		{full + "gas 0 0", 71, 1, api.ErrSyntax},
	})
}

// P2.5: a text of 60000 bytes is read, one of a byte more is not, whatever it says.
func TestParseLargeText(t *testing.T) {
	fill := strings.Repeat(" ", 60000-len(reefText))
	expect(t, "Parse of 60000 bytes", mustParse(t, reefText+fill), api.OK, reef(), api.OK)
	refuseTexts(t, []wrongText{
		{reefText + fill + " ", 0, 0, api.ErrLarge},
		{strings.Repeat("x", 60001), 0, 0, api.ErrLarge},
		{strings.Repeat("\n", 60000), 60001, 1, api.ErrMissing},
		{strings.Repeat(" ", 59999) + "x", 1, 60000, api.ErrSyntax},
	})
}
