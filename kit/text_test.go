package kit_test

import (
	"math"
	"strings"
	"testing"

	"shotline/api"
	"shotline/kit"
)

const shedText = "item c1 compressor 0\nitem a cylinder 0\nitem b cylinder 0\nitem r regulator 100\nrule test cylinder 1000 0\nrule service regulator 365 2\n"

// P7.1, P7.8: setups are printed, and read back.
func TestTexts(t *testing.T) {
	for text, k := range map[string]api.KitSetup{
		"":                    {},
		shedText:              shed(),
		"item item other 5\n": {Items: []api.KitItem{{Name: "item", Kind: api.KitOther, Bought: 5}}},
		"rule rule other 10000 1000\n": {
			Rules: []api.KitRule{{Name: "rule", Kind: api.KitOther, Days: 10000, Uses: 1000}},
		},
		"item a compressor 100000\nrule a compressor 0 1\n": {
			Items: []api.KitItem{{Name: "a", Kind: api.KitCompressor, Bought: 100000}},
			Rules: []api.KitRule{{Name: "a", Kind: api.KitCompressor, Uses: 1}},
		},
	} {
		s, e := kit.Print(k)
		expect(t, "Print", s, e, text, api.OK)
		got, n, e := kit.Parse(text)
		expect(t, "Parse of "+text, got, e, k, api.OK)
		expect(t, "its line", n, e, 0, api.OK)
	}
	thereAndBack := func(k api.KitSetup) {
		t.Helper()
		s, e := kit.Print(k)
		expect(t, "Print", nil, e, nil, api.OK)
		got, n, e := kit.Parse(s)
		expect(t, "Parse of "+s, got, e, k, api.OK)
		expect(t, "its line", n, e, 0, api.OK)
	}
	thereAndBack(many(30, 20))
	someShops(200, 0, func(_ chance, m model, _ map[int][]api.KitEvent) { thereAndBack(m.k) })
}

// P7.1: a setup with an error has no text.
func TestPrintOfWrongSetups(t *testing.T) {
	for _, k := range []api.KitSetup{many(31, 0), many(0, 21), {Items: []api.KitItem{{Name: "a b", Kind: 1}}}, {Items: []api.KitItem{{Name: "a", Kind: 5}}}, {Rules: []api.KitRule{{Name: "a", Kind: 1}}}} {
		s, e := kit.Print(k)
		refuse(t, "Print", s, e, kit.CheckSetup(k))
		if e == api.OK {
			t.Errorf("%+v is right", k)
		}
	}
}

// P7.1: texts of no setup, with the first wrong line; errors of the setup come behind all lines.
func TestWrongTexts(t *testing.T) {
	item, rule := "item a other 5\n", "rule b other 5 6\n"
	type wrong struct {
		text string
		line int
		e    api.Errno
	}
	tests := []wrong{
		{"item a other 5", 1, api.ErrSyntax},
		{item + "rule b other 5 6", 2, api.ErrSyntax},
		{item + rule + " ", 3, api.ErrSyntax},
		{"\n", 1, api.ErrSyntax},
		{item + "\n" + rule, 2, api.ErrSyntax},
		{item + rule + "\n", 3, api.ErrSyntax},
		{rule + item, 2, api.ErrSyntax},
		{item + rule + item, 3, api.ErrSyntax},
		{item + rule + rule + item, 4, api.ErrSyntax},
		{rule + "x\n" + item, 2, api.ErrSyntax},
		{item + "thing a other 5\n", 2, api.ErrSyntax},
		{"Item a other 5\n", 1, api.ErrSyntax},
		// Names are any bytes but blanks and line feeds, also none; numbers have at most 7 digits.
		{"item  other 5\n", 0, api.ErrName},
		{"item \ta\xff\r other 5\n", 0, api.ErrName},
		{"item " + strings.Repeat("a", 59000) + " other 5\n", 0, api.ErrName},
		{"item a other 9999999\n", 0, api.ErrRange},
		{"item a other -9999999\n", 0, api.ErrRange},
		{"item a other 10000000\n", 1, api.ErrSyntax},
		{"item a other -10000000\n", 1, api.ErrSyntax},
		{"rule  other 5 6\n", 0, api.ErrName},
		{"rule a other 9999999 1\n", 0, api.ErrRange},
		{"rule a other 1 -9999999\n", 0, api.ErrRange},
		{"rule a other 10000000 1\n", 1, api.ErrSyntax},
		{"rule a other 1 10000000\n", 1, api.ErrSyntax},
		{"rule a other 0 0\n", 0, api.ErrZero},
		{item + item, 0, api.ErrExists},
		{rule + rule, 0, api.ErrExists},
		{item + item + "item a other\n", 3, api.ErrSyntax},
		{"item  other 5\nrule a other 0 0\nitem\n", 3, api.ErrSyntax},
		{strings.Repeat(item, 31) + "x\n", 32, api.ErrSyntax},
		{strings.Repeat(item, 31) + strings.Repeat(rule, 21), 0, api.ErrLarge},
		{strings.Repeat(rule, 21), 0, api.ErrLarge},
		{strings.Repeat("\n", 60000), 1, api.ErrSyntax},
		{strings.Repeat("\n", 60001), 0, api.ErrLarge},
		{strings.Repeat(item, 4000), 0, api.ErrLarge},
		{strings.Repeat(item, 4001), 0, api.ErrLarge},
		{strings.Repeat(item, 3999) + "item a other  5", 4000, api.ErrSyntax},
	}
	for _, line := range []string{item, rule} {
		text := strings.TrimSuffix(line, "\n")
		words := strings.Split(text, " ")
		for _, s := range []string{" " + text, text + " ", text + "\r", text + " 7", strings.Replace(text, " ", "  ", 1), strings.Replace(text, " ", "\t", 1), strings.Join(words[1:], " "), strings.Join(words[:len(words)-1], " "), words[0]} {
			tests = append(tests, wrong{s + "\n", 1, api.ErrSyntax})
		}
		for i := range words {
			var bad []string
			switch i {
			case 0:
				bad = []string{"", "items", "RULE", "5"}
			case 1:
			case 2:
				bad = []string{"", "pump", "Other", "cylinders", "4", "0", "item"}
			default:
				bad = []string{"", "x", "01", "+1", "-0", "-", "--1", "1e3", "1.5", "0x1", "1_0", "00", "99999999999999999999", "\u0661"}
			}
			for _, word := range bad {
				other := append([]string{}, words...)
				other[i] = word
				tests = append(tests, wrong{strings.Join(other, " ") + "\n", 1, api.ErrSyntax})
			}
		}
	}
	for _, test := range tests {
		k, n, e := kit.Parse(test.text)
		refuse(t, "Parse of "+test.text[:min(len(test.text), 99)], k, e, test.e)
		if n != test.line {
			t.Errorf("Parse of %.99q: line %d, want %d", test.text, n, test.line)
		}
	}
}

// P7.2, P7.8: events are written, and read back, whatever they are.
func TestTextsOfEvents(t *testing.T) {
	for text, x := range map[string]api.KitEvent{
		"check 8 a test pass":                 checked(8, "a", "test", true),
		"check 8 a test fail":                 checked(8, "a", "test", false),
		"use 8 r":                             use(8, "r"),
		"fill 5 c1 a":                         fill(5, "c1", "a"),
		"empty 100000 b":                      empty(100000, "b"),
		"air 7 c1 fail":                       air(7, "c1", false),
		"air 7 c1 pass":                       air(7, "c1", true),
		"check 0   fail":                      {},
		"check 0 pass fail pass":              checked(0, "pass", "fail", true),
		"use -1 ":                             use(-1, ""),
		"fill 9999999  ":                      fill(9999999, "", ""),
		"empty -9999999 \ta\r\x00\xff":        empty(-9999999, "\ta\r\x00\xff"),
		"air 0 7 pass":                        air(0, "7", true),
		"use 0 " + strings.Repeat("x", 70000): use(0, strings.Repeat("x", 70000)),
	} {
		expect(t, "FormatEvent", kit.FormatEvent(x), api.OK, text, api.OK)
		got, e := kit.ParseEvent(text)
		expect(t, "ParseEvent of "+text, got, e, x, api.OK)
	}
	// What stands in no text is not written; not every text is one of an event.
	all := api.KitEvent{Day: 1, Item: "a", Rule: "b", From: "c", Passed: true}
	for kind, text := range map[int]string{
		api.KitCheck: "check 1 a b pass", api.KitUse: "use 1 a", api.KitFill: "fill 1 c a", api.KitEmpty: "empty 1 a", api.KitAir: "air 1 a pass", 5: "", -1: "", math.MinInt: "", math.MaxInt: "",
	} {
		x := all
		x.Kind = kind
		expect(t, "FormatEvent", kit.FormatEvent(x), api.OK, text, api.OK)
	}
	expect(t, "FormatEvent", kit.FormatEvent(use(math.MinInt, "a b\n")), api.OK, "use -9223372036854775808 a b\n", api.OK)
	someShops(100, 60, func(_ chance, m model, wrong map[int][]api.KitEvent) {
		l := m.l
		for _, others := range wrong {
			for _, x := range others {
				if m.alone(x) == api.OK {
					l = append(l, x)
				}
			}
		}
		for _, x := range l {
			got, e := kit.ParseEvent(kit.FormatEvent(x))
			expect(t, kit.FormatEvent(x), got, e, x, api.OK)
		}
	})
}

// P7.2: texts of no event.
func TestWrongTextsOfEvents(t *testing.T) {
	tests := []string{"", " ", "\n", "check", "use", "use 8", "use x r", "air 7 c1 good", "air 7 c1", "air 7 c1 a pass", "fill 5 c1", "fill 5 c1 a b", "use 8 r\n", "check 5 a pass", "check 5 a test", "check 5 a test Pass", "check 5 a test ", "empty 5 a b", "empty 5", "use 5 r pass", "Use 5 r", "item 5 r", "rule 5 r", "5 r", "in 1 a 210 0 5", "use 8 r\n\n", "use\n8 r", "use 8 a\nb"}
	for _, text := range []string{"check 8 a test pass", "use 8 r", "fill 5 c1 a", "empty 8 b", "air 7 c1 fail"} {
		words := strings.Split(text, " ")
		tests = append(tests, " "+text, text+" ", text+"\n", "\n"+text, text+" 1", "x"+text, strings.Join(words[1:], " "), strings.Join(words[:len(words)-1], " "), strings.Replace(text, " ", "  ", 1), strings.Replace(text, " ", "\t", 1))
		for _, number := range []string{"", "x", "01", "+1", "-0", "-", "--1", "1e3", "1.5", "0x1", "1_0", "00", "10000000", "-10000000", "99999999999999999999"} {
			words[1] = number
			tests = append(tests, strings.Join(words, " "))
		}
	}
	for _, text := range tests {
		x, e := kit.ParseEvent(text)
		refuse(t, "ParseEvent of "+text, x, e, api.ErrSyntax)
	}
}

// P1, P7.1, P7.2: no text makes a panic; what is accepted is written as it was.
func TestEveryText(t *testing.T) {
	parts := []string{"", " ", "\n", "\t", "-", "0", "9", "x", "fill", "item", "\x00", "\xff", "\u00a0", "\r", "9999999", "99999999999999999999"}
	around := func(text string, call func(s string)) {
		for i := range len(text) + 1 {
			for _, part := range parts {
				call(text[:i] + part)
				call(text[:i] + part + text[i:])
				call(text[:i] + part + text[min(i+1, len(text)):])
			}
		}
	}
	for _, text := range []string{"check 8 a test pass", "use 8 r", "fill 5 c1 a", "empty 8 b", "air 7 c1 fail"} {
		around(text, func(s string) {
			x, e := kit.ParseEvent(s)
			if e == api.ErrSyntax {
				refuse(t, s, x, e, api.ErrSyntax)
				return
			}
			expect(t, s, kit.FormatEvent(x), e, s, api.OK)
		})
	}
	around(shedText, func(s string) {
		k, n, e := kit.Parse(s)
		if e != api.OK {
			refuse(t, s, k, e, e)
			if (n == 0) == (e == api.ErrSyntax) {
				t.Errorf("Parse of %q: line %d, error %d", s, n, e)
			}
			return
		}
		text, e := kit.Print(k)
		expect(t, s, text, e, s, api.OK)
	})
}
