package gas_test

import (
	"fmt"
	"testing"

	"shotline/api"
	"shotline/gas"
)

// P1.1: the least and the greatest shares, and which error comes first.
func TestCheckGas(t *testing.T) {
	for _, c := range []struct {
		g    api.Gas
		want api.Errno
	}{
		{air, api.OK}, {oxygen, api.OK}, {helium, api.OK}, {api.Gas{}, api.OK},
		{api.Gas{Oxygen: 500, Helium: 500}, api.OK},
		{api.Gas{Oxygen: 500, Helium: 501}, api.ErrSum},
		{api.Gas{Oxygen: 501, Helium: 500}, api.ErrSum},
		{api.Gas{Oxygen: 1000, Helium: 1}, api.ErrSum},
		{api.Gas{Oxygen: 1, Helium: 1000}, api.ErrSum},
		{api.Gas{Oxygen: 1000, Helium: 1000}, api.ErrSum},
		{api.Gas{Oxygen: 1001}, api.ErrRange}, {api.Gas{Helium: 1001}, api.ErrRange},
		{api.Gas{Oxygen: -1}, api.ErrRange}, {api.Gas{Helium: -1}, api.ErrRange},
		{api.Gas{Oxygen: -1, Helium: 500}, api.ErrRange}, {api.Gas{Oxygen: 500, Helium: -1}, api.ErrRange},
		{api.Gas{Oxygen: 1001, Helium: 1000}, api.ErrRange}, {api.Gas{Oxygen: 1000, Helium: 1001}, api.ErrRange},
		{api.Gas{Oxygen: 1001, Helium: -1}, api.ErrRange}, {api.Gas{Oxygen: -1, Helium: 1001}, api.ErrRange},
	} {
		if e := gas.CheckGas(c.g); e != c.want {
			t.Errorf("CheckGas(%v): %d, want %d", c.g, e, c.want)
		}
	}
	for _, o := range extremes {
		for _, h := range extremes {
			want := api.OK
			if o < 0 || o > 1000 || h < 0 || h > 1000 {
				want = api.ErrRange
			} else if o+h > 1000 {
				want = api.ErrSum
			}
			if e := gas.CheckGas(api.Gas{Oxygen: o, Helium: h}); e != want {
				t.Errorf("CheckGas(%d, %d): %d, want %d", o, h, e, want)
			}
		}
	}
}

// P1.1: what is left of a gas.
func TestNitrogenOf(t *testing.T) {
	for g, want := range map[api.Gas]int{air: 790, oxygen: 0, helium: 0, {}: 1000, tx1845: 370, {Oxygen: 333, Helium: 333}: 334} {
		n, e := gas.NitrogenOf(g)
		expect(t, call("NitrogenOf", g), n, e, want, api.OK)
	}
	n, e := gas.NitrogenOf(wideGas)
	refuse(t, "NitrogenOf a wide gas", n, e, api.ErrRange)
	n, e = gas.NitrogenOf(fullGas)
	refuse(t, "NitrogenOf a full gas", n, e, api.ErrSum)
}

// P1.1: the first text that applies.
func TestFormat(t *testing.T) {
	for g, want := range map[api.Gas]string{
		air: "air", oxygen: "oxygen", helium: "helium", nx32: "nx32", tx1845: "tx18/45", {}: "nx0",
		{Oxygen: 325}: "gas325/0", {Oxygen: 211}: "gas211/0", {Oxygen: 10}: "nx1", {Oxygen: 990}: "nx99",
		{Oxygen: 180, Helium: 455}: "gas180/455", {Oxygen: 185, Helium: 450}: "gas185/450", {Helium: 500}: "tx0/50",
		{Helium: 1}: "gas0/1", {Oxygen: 210, Helium: 10}: "tx21/1", {Oxygen: 999}: "gas999/0", {Helium: 990}: "tx0/99",
		{Oxygen: 10, Helium: 990}: "tx1/99", {Oxygen: 1, Helium: 999}: "gas1/999",
	} {
		s, e := gas.Format(g)
		expect(t, call("Format", g), s, e, want, api.OK)
	}
	s, e := gas.Format(wideGas)
	refuse(t, "Format of a wide gas", s, e, api.ErrRange)
	s, e = gas.Format(fullGas)
	refuse(t, "Format of a full gas", s, e, api.ErrSum)
}

// P1.1: the examples of texts.
func TestParse(t *testing.T) {
	for s, want := range map[string]api.Gas{
		"air": air, "oxygen": oxygen, "helium": helium, "nx32": nx32, "tx18/45": tx1845, "gas325/0": {Oxygen: 325},
		"nx0": {}, "nx1": {Oxygen: 10}, "tx0/50": {Helium: 500}, "tx50/50": {Oxygen: 500, Helium: 500},
		"gas0/1": {Helium: 1}, "gas1/999": {Oxygen: 1, Helium: 999}, "gas180/455": {Oxygen: 180, Helium: 455},
	} {
		g, e := gas.Parse(s)
		expect(t, call("Parse", s), g, e, want, api.OK)
	}
}

// P1.1: texts of no gas: other words, numbers of another form, gases that are none, and gases with another text.
func TestParseWrong(t *testing.T) {
	for _, s := range []string{
		"", " ", "Air", "AIR", "air ", " air", "air\n", "ai", "airx", "Oxygen", "o2", "nitrogen", "none",
		"nx", "tx", "gas", "nx/", "tx/", "gas/", "tx18", "tx18/", "tx/45", "gas325", "gas325/", "gas/325", "NX32", "Tx18/45",
		"tx18/45/5", "tx18//45", "gas325/0/0", "nx32/0", "nx32/", "tx18/45/", "tx18/45 ", " nx32", "nx 32", "nx32 ", "nx32\n",
		"nx-1", "nx-0", "nx+32", "nx032", "nx00", "nx3 2", "nx3x", "nx0x20", "nx3_2", "nx32.0", "nx3e1", "nx३२",
		"tx018/45", "tx18/045", "tx+18/45", "tx18/+45", "tx-18/45", "tx18/-45", "tx-0/45", "tx18/4 5", "tx18:45", "tx18-45",
		"gas0325/0", "gas325/00", "gas+325/0", "gas325/-0", "gas-325/0", "gas325/-1",
		"nx101", "nx1000", "tx60/41", "tx101/0", "tx0/101", "gas600/401", "gas1001/0", "gas0/1001", "gas999/2",
		"nx18446744073709551648", "gas18446744073709551941/0", "gas325/18446744073709551616", "tx18/99999999999999999999999",
		"nx21", "nx100", "tx0/100", "tx100/0", "tx21/0", "tx18/0", "tx0/0", "gas210/0", "gas1000/0", "gas0/1000", "gas320/0",
		"gas180/450", "gas0/0", "gas500/500",
	} {
		g, e := gas.Parse(s)
		refuse(t, fmt.Sprintf("Parse(%q)", s), g, e, api.ErrSyntax)
	}
}

// P1.9, P3: of every gas there is, Parse undoes Format, and no two have the same text.
func TestParseUndoesFormat(t *testing.T) {
	seen := map[string]bool{}
	someGases(1, func(g api.Gas) {
		s, e := gas.Format(g)
		if e != api.OK || seen[s] && g.Oxygen+g.Helium < 1000 {
			t.Fatalf("Format(%v): %q, error %d", g, s, e)
		}
		seen[s] = true
		if x, e := gas.Parse(s); e != api.OK || x != g {
			t.Fatalf("Parse(%q): %v, error %d, want %v", s, x, e, g)
		}
	})
	if len(seen) != 1001*1002/2 {
		t.Errorf("%d texts", len(seen))
	}
}

// P1.1, P3: whatever short text is read, is the one that is printed.
func TestFormatUndoesParse(t *testing.T) {
	for _, word := range []string{"nx", "tx", "gas"} {
		for a := range 1002 {
			for _, end := range []string{"", "/0", "/1", "/10", "/45", "/100", "/450", "/1000"} {
				s := fmt.Sprint(word, a, end)
				g, e := gas.Parse(s)
				zeroBeside(t, s, g, e)
				if e != api.OK && e != api.ErrSyntax {
					t.Fatalf("Parse(%q): error %d", s, e)
				}
				if back, _ := gas.Format(g); e == api.OK && back != s {
					t.Fatalf("Parse(%q) is %v, which is %q", s, g, back)
				}
			}
		}
	}
}
