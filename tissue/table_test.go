package tissue_test

import (
	"slices"
	"strings"
	"testing"

	"shotline/api"
	"shotline/tissue"
)

const firstText = "tissue 600 240 500 1500\n"

// wrongCompartments are compartments with one number that is out of its range.
func wrongCompartments() []api.Compartment {
	return []api.Compartment{
		{Nitrogen: 0, Helium: 1, Slope: 1000},
		{Nitrogen: 100001, Helium: 1, Slope: 1000},
		{Nitrogen: 1, Helium: 0, Slope: 1000},
		{Nitrogen: 1, Helium: 100001, Slope: 1000},
		{Nitrogen: 1, Helium: 1, Base: -1, Slope: 1000},
		{Nitrogen: 1, Helium: 1, Base: 10001, Slope: 1000},
		{Nitrogen: 1, Helium: 1, Slope: 999},
		{Nitrogen: 1, Helium: 1, Slope: 10001},
	}
}

// P3.1: right and wrong tables.
func TestTables(t *testing.T) {
	edges := []api.Compartment{{Nitrogen: 1, Helium: 1, Slope: 1000}, {Nitrogen: 100000, Helium: 100000, Base: 10000, Slope: 10000}}
	full := slices.Repeat(edges, 8)
	for _, table := range [][]api.Compartment{first(), three(), edges, full} {
		if e := tissue.CheckTable(table); e != api.OK {
			t.Errorf("%v: error %d", table, e)
		}
	}
	for _, table := range [][]api.Compartment{nil, {}, append(full, edges[0]), append(full, api.Compartment{})} {
		if e := tissue.CheckTable(table); e != api.ErrShape {
			t.Errorf("%d compartments: error %d", len(table), e)
		}
		s, e := tissue.Print(table)
		refuse(t, "Print", s, e, api.ErrShape)
	}
	for _, c := range wrongCompartments() {
		for _, table := range [][]api.Compartment{{c}, append(three(), c), append([]api.Compartment{c}, three()...)} {
			if e := tissue.CheckTable(table); e != api.ErrRange {
				t.Errorf("%v: error %d", table, e)
			}
			s, e := tissue.Print(table)
			refuse(t, "Print", s, e, api.ErrRange)
		}
	}
}

// P3.1, P3.10: tables are printed and read back.
func TestTexts(t *testing.T) {
	s, e := tissue.Print(first())
	expect(t, "Print", s, e, firstText, api.OK)
	s, e = tissue.Print(three())
	expect(t, "Print", s, e, "tissue 300 110 1200 1980\ntissue 1600 600 600 1400\ntissue 38000 14000 230 1040\n", api.OK)
	for _, table := range [][]api.Compartment{first(), three(), slices.Repeat(three()[:2], 8), {{Nitrogen: 100000, Helium: 1, Slope: 10000}}} {
		s, e := tissue.Print(table)
		if e != api.OK {
			t.Fatal(table, e)
		}
		x, n, e := tissue.Parse(s)
		expect(t, "Parse", x, e, table, api.OK)
		expect(t, "the line", n, e, 0, api.OK)
	}
}

// P3.1: texts of no table.
func TestWrongTexts(t *testing.T) {
	type wrong struct {
		text string
		line int
		e    api.Errno
	}
	tests := []wrong{
		{"", 0, api.ErrShape},
		{"\n", 1, api.ErrSyntax},
		{firstText[:len(firstText)-1], 1, api.ErrSyntax},
		{firstText + "\n", 2, api.ErrSyntax},
		{firstText + firstText + "tissue 1 2 3 1000", 3, api.ErrSyntax},
		{firstText + "tissue 1 2 3\n" + "x\n", 2, api.ErrSyntax},
		{"tissue 0 1 1 1000\nx\n", 2, api.ErrSyntax},
		{"tissue 0 1 1 1000\n", 0, api.ErrRange},
		{"tissue 1 1 1 1000\ntissue 1 1 -1 1000\n", 0, api.ErrRange},
		{"tissue 1 1 1 9999999\n", 0, api.ErrRange},
		{"tissue 1 1 1 -9999999\n", 0, api.ErrRange},
		{"tissue 1 1 1 10000000\n", 1, api.ErrSyntax},
		{"tissue -10000000 1 1 1\n", 1, api.ErrSyntax},
		{strings.Repeat(firstText, 17), 0, api.ErrShape},
		{strings.Repeat(firstText, 17) + "x\n", 18, api.ErrSyntax},
		{strings.Repeat(firstText, 2500), 0, api.ErrShape},
		{strings.Repeat(firstText, 2500)[1:] + "x", 1, api.ErrSyntax},
		{strings.Repeat(firstText, 2500) + "x", 0, api.ErrLarge},
		{strings.Repeat("x", 60001), 0, api.ErrLarge},
	}
	for _, line := range []string{"tissue", "tissue 1 1 1 ", "tissue  1 1 1 1000", "tissue 1 1 1 1000 ", " tissue 1 1 1 1000", "tissue 1 1 1 1000 1",
		"Tissue 1 1 1 1000", "tissues 1 1 1 1000", "1 1 1 1000", "tissue\t1 1 1 1000", "tissue 01 1 1 1000", "tissue 1 +1 1 1000", "tissue 1 1 -0 1000",
		"tissue 1 1 1 1000\r", "tissue 1 1 1 1e3", "tissue 1 1 x 1000", "tissue - 1 1 1000", "tissue 1 1 1"} {
		tests = append(tests, wrong{line + "\n", 1, api.ErrSyntax}, wrong{firstText + line + "\n" + firstText, 2, api.ErrSyntax})
	}
	for _, test := range tests {
		x, n, e := tissue.Parse(test.text)
		what := test.text[:min(60, len(test.text))]
		refuse(t, what, x, e, test.e)
		expect(t, what+" (line)", n, e, test.line, test.e)
	}
}
