package profile

import (
	"strings"

	"shotline/api"
)

// textDigits is the most digits of a number of the language.
const textDigits = 7

// word is a word of a line, and the column of its first byte.
type word struct {
	text   string
	column int
}

// asName takes a name, which has no number.
func asName(s string) (int, api.Errno) {
	if !isName(s) {
		return 0, api.ErrName
	}
	return 0, api.OK
}

func asNumber(s string) (int, api.Errno) {
	n, ok := readNumber(s, textDigits)
	if !ok || n < 0 {
		return 0, api.ErrSyntax
	}
	return n, api.OK
}

// asTime returns the seconds of a time.
func asTime(s string) (int, api.Errno) {
	before, after, _ := strings.Cut(s, ":")
	minutes, e := asNumber(before)
	if e != api.OK || len(after) != 2 || !areDigits(after) || after[0] > '5' {
		return 0, api.ErrSyntax
	}
	return 60*minutes + ofDigits(after), api.OK
}

// asDepth returns the centimetres of a depth.
func asDepth(s string) (int, api.Errno) {
	before, after, isPointed := strings.Cut(s, ".")
	metres, e := asNumber(before)
	if e != api.OK {
		return 0, e
	}
	if !isPointed {
		return 100 * metres, api.OK
	}
	if !within(len(after), 1, 2) || !areDigits(after) {
		return 0, api.ErrSyntax
	}
	return 100*metres + ofDigits((after + "0")[:2]), api.OK
}

func areDigits(s string) bool {
	for _, c := range []byte(s) {
		if !isDigit(c) {
			return false
		}
	}
	return true
}

// ofDigits returns the number that two digits are.
func ofDigits(s string) int {
	return 10*int(s[0]-'0') + int(s[1]-'0')
}

// linesOf returns a function that returns the next line of a text with each call, and its number; behind the last
// line it returns false, and the number of the line that would come there.
func linesOf(t string) func() (string, int, bool) {
	number := 0
	return func() (string, int, bool) {
		number++
		if t == "" {
			return "", number, false
		}
		line, rest, _ := strings.Cut(t, "\n")
		t = rest
		return line, number, true
	}
}

// wordsOf returns the words of a line ahead of its comment.
func wordsOf(line string) []word {
	text, _, _ := strings.Cut(line, ";")
	var words []word
	begin := 0
	for i := range len(text) + 1 {
		if i < len(text) && text[i] != ' ' && text[i] != '\t' {
			continue
		}
		if begin < i {
			words = append(words, word{text[begin:i], begin + 1})
		}
		begin = i + 1
	}
	return words
}

// behind returns the column behind the last byte of a word.
func behind(w word) int {
	return w.column + len(w.text)
}
