package lines_test

import (
	"strings"
	"testing"

	"shotline/lines"
)

// R11: strings stand in a line as they are, ints in decimal digits.
func TestWritten(t *testing.T) {
	a, b, n, m := "a", "", 12, -3
	for want, got := range map[string]string{
		"x":             lines.Written("x"),
		"":              lines.Written(""),
		"x a":           lines.Written("x", &a),
		"x ":            lines.Written("x", &b),
		"x 12 a  -3 12": lines.Written("x", &n, &a, &b, &m, &n),
	} {
		if got != want {
			t.Errorf("%q, want %q", got, want)
		}
	}
}

// R11: what is written is read into the places where it stood.
func TestRead(t *testing.T) {
	a, b, n, m := "a", "", 1234, -1234
	words := strings.Split(lines.Written("x", &n, &a, &b, &m), " ")
	a, b, n, m = "other", "other", 5, 5
	if !lines.Read(words[1:], 4, &n, &a, &b, &m) || a != "a" || b != "" || n != 1234 || m != -1234 {
		t.Errorf("%q: %q, %q, %d, %d", words, a, b, n, m)
	}
	if !lines.Read(nil, 4) {
		t.Error("no words do not fit no places")
	}
	for _, words := range [][]string{nil, {"1"}, {"1", "a", "b"}, {"a", "1"}, {"", "a"}, {"12345", "a"}, {"-12345", "a"}, {"01", "a"}} {
		if lines.Read(words, 4, &n, &a) {
			t.Errorf("%q fits a number and a string", words)
		}
	}
}

// mark is a place that stands in a line as "yes" or "no".
type mark bool

func (m *mark) Word() string {
	if *m {
		return "yes"
	}
	return "no"
}

func (m *mark) Take(word string) bool {
	*m = word == "yes"
	return word == "yes" || word == "no"
}

// R11: what stands in a line as a word of its own is written, and read back.
func TestWords(t *testing.T) {
	n, yes, no := 7, mark(true), mark(false)
	if s := lines.Written("x", &yes, &n, &no); s != "x yes 7 no" {
		t.Errorf("%q", s)
	}
	if !lines.Read([]string{"no", "8", "yes"}, 1, &yes, &n, &no) || bool(yes) || n != 8 || !bool(no) {
		t.Errorf("%v, %d, %v", yes, n, no)
	}
	for _, words := range [][]string{{"maybe", "8"}, {"", "8"}, {"yes", "x"}, {"8", "yes"}} {
		if lines.Read(words, 1, &yes, &n) {
			t.Errorf("%q fits a mark and a number", words)
		}
	}
}
