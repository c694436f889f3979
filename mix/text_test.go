package mix_test

import (
	"math"
	"strings"
	"testing"

	"shotline/api"
	"shotline/mix"
)

// P6.3, P6.10: fills are written, and read back.
func TestTexts(t *testing.T) {
	for text, f := range map[string]api.MixFill{
		"in 1 bank 210 0 10000000":                    in(1, "bank", air, 10000000),
		"in 100000 a 180 450 1000000000":              in(100000, "a", tx1845, 1000000000),
		"move 1 bank s12 1900000":                     move(1, "bank", "s12", 1900000),
		"pump 3 a b 7":                                pump(3, "a", "b", 7),
		"vent 2 s12 1000":                             vent(2, "s12", 1000),
		"move 0 move pump 1":                          move(0, "move", "pump", 1),
		"vent 0 7 1":                                  vent(0, "7", 1),
		"in 0 \ta\r\x00\xff 0 0 1":                    in(0, "\ta\r\x00\xff", nitro, 1),
		"vent 0 " + strings.Repeat("x", 70000) + " 1": vent(0, strings.Repeat("x", 70000), 1),
		// What is not right has a text, too.
		"in -1 x -2 -3 -4":                in(-1, "x", api.Gas{Oxygen: -2, Helium: -3}, -4),
		"in 0  0 0 0":                     {},
		"move 0   0":                      {Kind: api.MixMove},
		"vent 0  0":                       {Kind: api.MixVent},
		"pump 9999999999 a a -9999999999": pump(9999999999, "a", "a", -9999999999),
		"in 9999999999 a -9999999999 9999999999 5": in(9999999999, "a", api.Gas{Oxygen: -9999999999, Helium: 9999999999}, 5),
	} {
		expect(t, "FormatFill", mix.FormatFill(f), api.OK, text, api.OK)
		got, e := mix.ParseFill(text)
		expect(t, text, got, e, f, api.OK)
	}
}

// P6.3: what stands in no text is not written; a fill whose kind is none has no text, and not every text is one of a fill.
func TestFillsWithOtherTexts(t *testing.T) {
	for _, test := range []struct {
		x    api.MixFill
		text string
	}{
		{api.MixFill{Kind: api.MixIn, Day: 1, From: "a", To: "b", Gas: air, Amount: 2, Pump: true}, "in 1 b 210 0 2"},
		{api.MixFill{Kind: api.MixMove, Day: 1, From: "a", To: "b", Gas: air, Amount: 2}, "move 1 a b 2"},
		{api.MixFill{Kind: api.MixMove, Day: 1, From: "a", To: "b", Gas: air, Amount: 2, Pump: true}, "pump 1 a b 2"},
		{api.MixFill{Kind: api.MixVent, Day: 1, From: "a", To: "b", Gas: air, Amount: 2, Pump: true}, "vent 1 a 2"},
		{vent(math.MinInt, "a b\n", math.MaxInt), "vent -9223372036854775808 a b\n 9223372036854775807"},
		{api.MixFill{Kind: 3, Day: 1, To: "b", Gas: air, Amount: 2}, ""},
		{api.MixFill{Kind: -1, Day: 1, To: "b", Gas: air, Amount: 2}, ""},
		{api.MixFill{Kind: math.MinInt, Pump: true}, ""},
	} {
		expect(t, "FormatFill", mix.FormatFill(test.x), api.OK, test.text, api.OK)
	}
}

// P6.3: texts of no fill.
func TestWrongTexts(t *testing.T) {
	tests := []string{"", " ", "in", "move", "vent", "x 1 a 1", "In 1 bank 210 0 1", "MOVE 1 a b 1", "fill 1 a 1", "move 3 a 7", "vent 1 a b 7", "in 1 a b 210 0 7", "pump 1 a 7", "\n", "in 1 a\n 210 0 7"}
	for _, text := range []string{"in 1 bank 210 0 5", "move 1 bank s12 5", "pump 1 bank s12 5", "vent 1 bank 5"} {
		words := strings.Split(text, " ")
		tests = append(tests, " "+text, text+" ", text+"\n", "\n"+text, text+"\r", text+" 1", "x"+text, strings.Join(words[1:], " "), strings.Join(words[:len(words)-1], " "),
			strings.Replace(text, " ", "  ", 1), strings.Replace(text, " ", "\t", 1), strings.Replace(text, "bank", "ba nk", 1), strings.Replace(text, "bank", "ba\nnk", 1), strings.Replace(text, "bank", "\n", 1))
		for i, word := range words {
			if word[0] > '9' {
				continue
			}
			for _, number := range []string{"", "x", "01", "+1", "-0", "-", "--1", "1e3", "1.5", "0x1", "1_0", "00", "10000000000", "-10000000000", "99999999999999999999"} {
				bad := strings.Split(text, " ")
				bad[i] = number
				tests = append(tests, strings.Join(bad, " "))
			}
		}
	}
	for _, text := range tests {
		f, e := mix.ParseFill(text)
		refuse(t, text, f, e, api.ErrSyntax)
	}
}

// P1, P6.3: no text makes a panic; what is accepted is written as it was.
func TestEveryText(t *testing.T) {
	for _, text := range []string{"in 1 bank 210 0 5", "move 1 bank s12 5", "pump 1 bank s12 5", "vent 1 bank 5"} {
		for i := range len(text) + 1 {
			for _, part := range []string{"", " ", "\n", "\t", "-", "0", "9", "x", "in", "\x00", "\xff", "\u00a0", "\r", "9999999", "99999999999999999999"} {
				for _, s := range []string{text[:i] + part, text[:i] + part + text[i:], text[:i] + part + text[min(i+1, len(text)):]} {
					f, e := mix.ParseFill(s)
					if e == api.ErrSyntax {
						refuse(t, s, f, e, api.ErrSyntax)
						continue
					}
					expect(t, s, mix.FormatFill(f), e, s, api.OK)
				}
			}
		}
	}
}

// P6.10: fills that are right alone are read back.
func TestTextsByChance(t *testing.T) {
	for seed := range 100 {
		c := newChance(seed)
		m := newModel(c.vessels(), nil)
		for range 50 {
			f := c.fill(m)
			got, e := mix.ParseFill(mix.FormatFill(f))
			expect(t, mix.FormatFill(f), got, e, f, api.OK)
		}
	}
}
