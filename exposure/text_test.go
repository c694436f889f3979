package exposure_test

import (
	"strings"
	"testing"

	"shotline/api"
	"shotline/exposure"
)

const (
	headText   = "oxygen 160 1400\nlimits 3000 5200\nbreath 20000\nemergency 40000 60 1000\n"
	sampleText = headText + "row 500 100\nrow 1000 300\n"
)

// P5.1, P5.10: rules are printed and read back.
func TestTexts(t *testing.T) {
	bare := sample()
	bare.Table = nil
	for text, want := range map[string]api.ExposureRules{
		sampleText: sample(),
		headText:   bare,
		"oxygen 1 1\nlimits 0 1\nbreath 1\nemergency 1 0 1\n":                            rightRules()[1],
		"oxygen 1 4000\nlimits 1 2\nbreath 3\nemergency 4 5 6\nrow 0 0\n":                rightRules()[3],
		"oxygen 1 4000\nlimits 1 2\nbreath 3\nemergency 4 5 6\nrow 4000 100000\n":        {Table: table(4000, 100000), Oxygen: api.OxygenLimits{Least: 1, Most: 4000}, Narcotic: 1, Dense: 2, Breath: 3, Emergency: 4, Pause: 5, Ascent: 6},
		"oxygen 1 4000\nlimits 0 100000\nbreath 100000\nemergency 100000 3600 3000\n":    {Oxygen: api.OxygenLimits{Least: 1, Most: 4000}, Dense: 100000, Breath: 100000, Emergency: 100000, Pause: 3600, Ascent: 3000},
		"oxygen 2 3\nlimits 30000 4\nbreath 5\nemergency 6 7 8\nrow 9 10\nrow 11 12\n":   {Table: table(9, 10, 11, 12), Oxygen: api.OxygenLimits{Least: 2, Most: 3}, Narcotic: 30000, Dense: 4, Breath: 5, Emergency: 6, Pause: 7, Ascent: 8},
		"oxygen 2 3\nlimits 30000 4\nbreath 5\nemergency 6 7 8\nrow 0 100000\nrow 1 0\n": {Table: table(0, 100000, 1, 0), Oxygen: api.OxygenLimits{Least: 2, Most: 3}, Narcotic: 30000, Dense: 4, Breath: 5, Emergency: 6, Pause: 7, Ascent: 8},
	} {
		s, e := exposure.Print(want)
		expect(t, "Print", s, e, text, api.OK)
		r, n, e := exposure.Parse(text)
		expect(t, "Parse", r, e, want, api.OK)
		expect(t, "the line", n, e, 0, api.OK)
	}
	thereAndBack := func(r api.ExposureRules) {
		t.Helper()
		text, e := exposure.Print(r)
		if e != api.OK {
			t.Fatalf("%+v: error %d", r, e)
		}
		back, n, e := exposure.Parse(text)
		expect(t, text, back, e, r, api.OK)
		expect(t, text, n, e, 0, api.OK)
	}
	for _, r := range rightRules() {
		thereAndBack(r)
	}
	someDives(200, func(_ chance, _ api.DivePlan, r api.ExposureRules) { thereAndBack(r) })
}

// P5.1: texts of no rules.
func TestWrongTexts(t *testing.T) {
	type wrong struct {
		text string
		line int
		e    api.Errno
	}
	head := strings.SplitAfter(headText, "\n")[:4]
	tests := []wrong{
		{"", 1, api.ErrSyntax},
		{"\n", 1, api.ErrSyntax},
		{headText + "\n", 5, api.ErrSyntax},
		{sampleText + "\n", 7, api.ErrSyntax},
		{"\n" + headText, 1, api.ErrSyntax},
		{sampleText + "row 2000 1", 7, api.ErrSyntax},
		{strings.TrimSuffix(headText, "\n"), 4, api.ErrSyntax},
		{headText + "oxygen 160 1400\n", 5, api.ErrSyntax},
		{head[1] + head[0] + head[2] + head[3], 1, api.ErrSyntax},
		{head[0] + head[2] + head[1] + head[3], 2, api.ErrSyntax},
		{head[0] + head[1] + head[3] + head[2], 3, api.ErrSyntax},
		{head[0] + head[1] + head[2] + "row 1 1\n", 4, api.ErrSyntax},
		{head[0] + "limits 3000\n" + head[2] + "x\n", 2, api.ErrSyntax},
		// Whether numbers are right is looked at behind all lines.
		{"oxygen 0 1400\n", 2, api.ErrSyntax},
		{"oxygen 0 1400\nlimits x 1\n", 2, api.ErrSyntax},
		{headText + "row 4001 1\nrow\n", 6, api.ErrSyntax},
		{headText + strings.Repeat("row 1 1\n", 21) + "x\n", 26, api.ErrSyntax},
		{headText + strings.Repeat("row 1 1\n", 21), 0, api.ErrLarge},
		{headText + "row 4001 1\n", 0, api.ErrRange},
		{headText + "row 1 -1\n", 0, api.ErrRange},
		{headText + "row -9999999 1\n", 0, api.ErrRange},
		{headText + "row 9999999 1\n", 0, api.ErrRange},
		{headText + "row 10000000 1\n", 5, api.ErrSyntax},
		{headText + "row -10000000 1\n", 5, api.ErrSyntax},
		{headText + "row 1 1\nrow 1 1\n", 0, api.ErrOrder},
		{"oxygen 1400 160\n" + head[1] + head[2] + head[3], 0, api.ErrOrder},
		{head[0] + head[1] + "breath 0\n" + head[3], 0, api.ErrRange},
		{head[0] + "limits 3000 0\n" + head[2] + head[3], 0, api.ErrRange},
		{head[0] + head[1] + head[2] + "emergency 1 1 0\n", 0, api.ErrRange},
		{strings.Repeat("x", 60000), 1, api.ErrSyntax},
		{strings.Repeat("x", 60001), 0, api.ErrLarge},
		{headText + strings.Repeat("row 1 1\n", 7489) + "row 10 1\n", 0, api.ErrLarge},
	}
	// Each line, with each of its parts spoiled, behind those that are right.
	before := ""
	for i, line := range append(head, "row 500 100\n") {
		words := strings.Fields(line)
		tests = append(tests, wrong{before + line[:len(line)-1], i + 1, api.ErrSyntax})
		if i < 4 {
			tests = append(tests, wrong{before, i + 1, api.ErrSyntax})
		}
		for _, bad := range []string{" " + line, line[:len(line)-1] + " \n", line[:len(line)-1] + " 1\n", line[:len(line)-1] + "\r\n", words[0] + "\n", strings.Join(words[:len(words)-1], " ") + "\n",
			strings.ToUpper(line), "x" + line, strings.Replace(line, " ", "  ", 1), strings.Replace(line, " ", "\t", 1), strings.Join(words[1:], " ") + "\n"} {
			tests = append(tests, wrong{before + bad + "row 1 1\n", i + 1, api.ErrSyntax})
		}
		for k := range words[1:] {
			for _, number := range []string{"", "x", "01", "+1", "-0", "-", "--1", "1e3", "1.5", "0x1", "1_0", "00", "10000000", "-10000000", "99999999999999999999"} {
				bad := append([]string{}, words...)
				bad[k+1] = number
				tests = append(tests, wrong{before + strings.Join(bad, " ") + "\nx\n", i + 1, api.ErrSyntax})
			}
		}
		before += line
	}
	for _, test := range tests {
		r, n, e := exposure.Parse(test.text)
		what := test.text[:min(120, len(test.text))]
		refuse(t, what, r, e, test.e)
		expect(t, what+" (line)", n, e, test.line, test.e)
	}
}

// P1: no text makes a panic; what is accepted is printed as it was.
func TestEveryText(t *testing.T) {
	for i := range sampleText {
		for _, part := range []string{"", " ", "\n", "\t", "-", "0", "9", "x", "row", "\x00", "\xff", "\u00a0", "\r", "9999999", "99999999999999999999"} {
			for _, s := range []string{sampleText[:i] + part, sampleText[:i] + part + sampleText[i:], sampleText[:i] + part + sampleText[i+1:]} {
				r, n, e := exposure.Parse(s)
				if (e == api.ErrSyntax) != (n > 0) || n < 0 || n > strings.Count(s, "\n")+1 || e != api.OK && flat(r) != flat(api.ExposureRules{}) {
					t.Errorf("Parse(%q): %+v, line %d, error %d", s, r, n, e)
				}
				if back, e2 := exposure.Print(r); e == api.OK && (back != s || e2 != api.OK) {
					t.Errorf("Parse(%q): %+v, whose text is %q", s, r, back)
				}
			}
		}
	}
}
