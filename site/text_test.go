package site_test

import (
	"slices"
	"strings"
	"testing"

	"shotline/api"
	"shotline/site"
)

// P8.8, P8.12: tables are printed, and read back.
func TestTexts(t *testing.T) {
	for text, table := range map[string]api.TideTable{
		"tide 200\nwave 100 4096 0\n":                   tide(),
		"tide 0\n":                                      {},
		"tide -100000\n":                                {Mean: -100000},
		"tide 100000\nwave 0 1 4095\n":                  {Mean: 100000, Waves: []api.TideWave{{Period: 1, Phase: 4095}}},
		"tide -1\nwave 100000 100000 2\nwave 3 40 50\n": {Mean: -1, Waves: []api.TideWave{{Height: 100000, Period: 100000, Phase: 2}, {Height: 3, Period: 40, Phase: 50}}},
		"tide 9\n" + strings.Repeat("wave 1 2 3\n", 10): {Mean: 9, Waves: slices.Repeat([]api.TideWave{{Height: 1, Period: 2, Phase: 3}}, 10)},
	} {
		s, e := site.Print(table)
		expect(t, "Print", s, e, text, api.OK)
		got, n, e := site.Parse(text)
		expect(t, "Parse of "+text, got, e, table, api.OK)
		expect(t, "its line", n, e, 0, api.OK)
	}
	c := newChance(11)
	for range 2000 {
		table := c.table()
		s, e := site.Print(table)
		expect(t, "Print", nil, e, nil, api.OK)
		got, n, e := site.Parse(s)
		expect(t, "Parse of "+s, got, e, table, api.OK)
		expect(t, "its line", n, e, 0, api.OK)
	}
}

// P8.8: a table with an error has no text.
func TestPrintOfWrongTables(t *testing.T) {
	for _, test := range []struct {
		table api.TideTable
		e     api.Errno
	}{
		{api.TideTable{Mean: 100001}, api.ErrRange},
		{api.TideTable{Waves: make([]api.TideWave, 11)}, api.ErrLarge},
		{api.TideTable{Waves: make([]api.TideWave, 1)}, api.ErrRange},
	} {
		s, e := site.Print(test.table)
		refuse(t, "Print", s, e, test.e)
	}
}

// wrongText is a text of no table, with the line and the error.
type wrongText struct {
	text string
	line int
	e    api.Errno
}

// P8.8: texts of no table, with the first wrong line; errors of the table come behind all lines.
func TestWrongTexts(t *testing.T) {
	head, wave := "tide 5\n", "wave 1 2 3\n"
	tests := []wrongText{
		{"", 1, api.ErrSyntax},
		{"\n", 1, api.ErrSyntax},
		{" ", 1, api.ErrSyntax},
		{wave, 1, api.ErrSyntax},
		{"\n" + head, 1, api.ErrSyntax},
		{wave + head, 1, api.ErrSyntax},
		{"tide 5", 1, api.ErrSyntax},
		{head + "\n", 2, api.ErrSyntax},
		{head + " ", 2, api.ErrSyntax},
		{head + head, 2, api.ErrSyntax},
		{head + wave + head, 3, api.ErrSyntax},
		{head + wave + "\n", 3, api.ErrSyntax},
		{head + "\n" + wave, 2, api.ErrSyntax},
		{head + wave + "wave 1 2 3", 3, api.ErrSyntax},
		{head + "wave 1 2\n" + "x", 2, api.ErrSyntax},
		{"tide 100001\nx\n", 2, api.ErrSyntax},
		{"tide 9999999\n", 0, api.ErrRange},
		{"tide -9999999\n", 0, api.ErrRange},
		{"tide 100001\n" + strings.Repeat(wave, 11), 0, api.ErrRange},
		{head + strings.Repeat(wave, 10) + "wave\n", 12, api.ErrSyntax},
		{head + strings.Repeat(wave, 11) + "wave 1 2 x\n", 13, api.ErrSyntax},
		{head + strings.Repeat(wave, 11), 0, api.ErrLarge},
		{head + strings.Repeat("wave 1 0 0\n", 11), 0, api.ErrLarge},
		{head + "wave 1 0 0\n", 0, api.ErrRange},
		{head + "wave -1 2 3\n", 0, api.ErrRange},
		{head + "wave 1 2 4096\n", 0, api.ErrRange},
		{head + wave + "wave 1 2 -9999999\n", 0, api.ErrRange},
		{strings.Repeat("x", 60000), 1, api.ErrSyntax},
		{strings.Repeat("x", 60001), 0, api.ErrLarge},
		{head + strings.Repeat(wave, 5453) + "wave 1 22\n", 5455, api.ErrSyntax},
		{head + strings.Repeat(wave, 5453) + "wave 11 22\n", 0, api.ErrLarge},
	}
	tests = append(tests, spoiled("", head, 1)...)
	tests = append(tests, spoiled(head, wave, 2)...)
	tests = append(tests, spoiled(head+wave, wave, 3)...)
	for _, test := range tests {
		x, n, e := site.Parse(test.text)
		what := test.text[:min(120, len(test.text))]
		refuse(t, what, x, e, test.e)
		expect(t, what+" (line)", n, e, test.line, test.e)
	}
}

// spoiled are texts with each part of a line spoiled, behind those that are right.
func spoiled(before, line string, number int) []wrongText {
	text := strings.TrimSuffix(line, "\n")
	words := strings.Fields(line)
	bad := []string{" " + text, text + " ", text + " 1", text + "\r", words[0], strings.Join(words[:len(words)-1], " "), strings.ToUpper(text), "x" + text,
		strings.Replace(text, " ", "  ", 1), strings.Replace(text, " ", "\t", 1), strings.Join(words[1:], " ")}
	for k := range words[1:] {
		for _, n := range []string{"", "x", "01", "+1", "-0", "-", "--1", "1e3", "1.5", "0x1", "1_0", "00", "10000000", "-10000000", "99999999999999999999"} {
			other := slices.Clone(words)
			other[k+1] = n
			bad = append(bad, strings.Join(other, " "))
		}
	}
	tests := []wrongText{{before + text, number, api.ErrSyntax}}
	for _, b := range bad {
		tests = append(tests, wrongText{before + b + "\n", number, api.ErrSyntax}, wrongText{before + b + "\nx\n", number, api.ErrSyntax})
	}
	return tests
}

// P1: no text makes a panic; what is accepted is printed as it was.
func TestEveryText(t *testing.T) {
	sample := "tide -20\nwave 100 4096 0\nwave 7 1 4095\n"
	for i := range sample {
		for _, part := range []string{"", " ", "\n", "\t", "-", "0", "9", "x", "wave", "\x00", "\xff", "\u00a0", "\r", "9999999", "99999999999999999999"} {
			for _, s := range []string{sample[:i] + part, sample[:i] + part + sample[i:], sample[:i] + part + sample[i+1:]} {
				x, n, e := site.Parse(s)
				if (e == api.ErrSyntax) != (n > 0) || n < 0 || n > strings.Count(s, "\n")+1 || e != api.OK && flat(x) != flat(api.TideTable{}) {
					t.Errorf("Parse(%q): %+v, line %d, error %d", s, x, n, e)
				}
				if back, e2 := site.Print(x); e == api.OK && (back != s || e2 != api.OK) {
					t.Errorf("Parse(%q): %+v, whose text is %q", s, x, back)
				}
			}
		}
	}
}
