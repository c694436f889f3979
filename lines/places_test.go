package lines_test

import (
	"strings"
	"testing"

	"shotline/lines"
)

// R11: strings stand in a line as they are, ints in decimal digits.
func TestWritten(t *testing.T) {
	a, b, n, m := "a", "", 12, -3
	for want, got := range map[string]string{
		"x":             lines.Written("x"),
		"":              lines.Written(""),
		"x a":           lines.Written("x", &a),
		"x ":            lines.Written("x", &b),
		"x 12 a  -3 12": lines.Written("x", &n, &a, &b, &m, &n),
	} {
		if got != want {
			t.Errorf("%q, want %q", got, want)
		}
	}
}

// R11: what is written is read into the places where it stood.
func TestRead(t *testing.T) {
	a, b, n, m := "a", "", 1234, -1234
	words := strings.Split(lines.Written("x", &n, &a, &b, &m), " ")
	a, b, n, m = "other", "other", 5, 5
	if !lines.Read(words[1:], 4, &n, &a, &b, &m) || a != "a" || b != "" || n != 1234 || m != -1234 {
		t.Errorf("%q: %q, %q, %d, %d", words, a, b, n, m)
	}
	if !lines.Read(nil, 4) {
		t.Error("no words do not fit no places")
	}
	for _, words := range [][]string{nil, {"1"}, {"1", "a", "b"}, {"a", "1"}, {"", "a"}, {"12345", "a"}, {"-12345", "a"}, {"01", "a"}} {
		if lines.Read(words, 4, &n, &a) {
			t.Errorf("%q fits a number and a string", words)
		}
	}
}
