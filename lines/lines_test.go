package lines_test

import (
	"fmt"
	"slices"
	"testing"

	"shotline/lines"
)

// R11: two blanks have an empty word between them; lines are ended by line feeds.
func TestOf(t *testing.T) {
	tests := map[string]string{
		"":             "",
		"a":            "1 0 []",
		"\n":           `1 1 [""]`,
		"a\n":          `1 1 ["a"]`,
		"a  b\n":       `1 3 ["a" "" "b"]`,
		" a \n":        `1 3 ["" "a" ""]`,
		"a\tb\r\n":     `1 1 ["a\tb\r"]`,
		"a b\nc\n":     `1 2 ["a" "b"] 2 1 ["c"]`,
		"a b\n\nc d":   `1 2 ["a" "b"] 2 1 [""] 3 0 []`,
		"a\xff b\n\nc": `1 2 ["a\xff" "b"] 2 1 [""] 3 0 []`,
	}
	for text, want := range tests {
		all := lines.Of(text)
		for range 2 {
			var got []string
			for number, words := range all {
				got = append(got, fmt.Sprintf("%d %d %q", number, len(words), words))
			}
			if s := joined(got); s != want {
				t.Errorf("%q: %s, want %s", text, s, want)
			}
		}
	}
	for number := range lines.Of("a\nb\nc\n") {
		if number == 2 {
			break
		}
	}
}

func joined(l []string) string {
	s := ""
	for i, x := range l {
		if i > 0 {
			s += " "
		}
		s += x
	}
	return s
}

// R11: a number has one text only.
func TestNumber(t *testing.T) {
	numbers := map[string]int{"0": 0, "7": 7, "-1": -1, "123": 123, "-999": -999, "1000": 1000, "-1000": -1000}
	for word, want := range numbers {
		if n, ok := lines.Number(word, 4); !ok || n != want {
			t.Errorf("%q: %d, %v", word, n, ok)
		}
	}
	for _, word := range []string{"", "-", "+1", "01", "-0", "-01", "00", "1a", "a", " 1", "1 ", "--1", "1_0", "0x1", "1.0", "12345", "-12345", "99999999999999999999", "\u0661"} {
		if n, ok := lines.Number(word, 4); ok || n != 0 {
			t.Errorf("%q: %d, %v", word, n, ok)
		}
	}
	if n, ok := lines.Number("99999999999999999999", 30); ok || n != 0 {
		t.Errorf("more than an int: %d, %v", n, ok)
	}
	l, ok := lines.Numbers([]string{"5", "-6", "7"}, 1)
	if !ok || !slices.Equal(l, []int{5, -6, 7}) {
		t.Errorf("numbers: %v, %v", l, ok)
	}
	for _, words := range [][]string{{"x", "1"}, {"1", "10"}, {"1", ""}} {
		if l, ok := lines.Numbers(words, 1); ok || l != nil {
			t.Errorf("%q: %v, %v", words, l, ok)
		}
	}
}

func TestJoin(t *testing.T) {
	if s := lines.Join("a"); s != "a" {
		t.Errorf("%q", s)
	}
	if s := lines.Join("a", 1, -2, 0); s != "a 1 -2 0" {
		t.Errorf("%q", s)
	}
}
