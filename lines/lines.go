// Package lines reads texts of lines: words with single blanks between, and a line feed at the end of each line.
package lines

import (
	"iter"
	"strconv"
	"strings"
)

// Of yields the lines of a text, with their numbers from 1 on, as words. A last line without a line feed has none (an
// empty line has one, which is empty).
func Of(s string) iter.Seq2[int, []string] {
	return func(yield func(int, []string) bool) {
		rest := s
		for number := 1; rest != ""; number++ {
			line, after, ended := strings.Cut(rest, "\n")
			rest = after
			var words []string
			if ended {
				words = strings.Split(line, " ")
			}
			if !yield(number, words) {
				return
			}
		}
	}
}

// Numbers reads words as numbers of at most so many digits.
func Numbers(words []string, digits int) ([]int, bool) {
	var numbers []int
	for _, word := range words {
		n, ok := Number(word, digits)
		if !ok {
			return nil, false
		}
		numbers = append(numbers, n)
	}
	return numbers, true
}

// Number reads a word as a number of at most so many digits.
func Number(word string, digits int) (int, bool) {
	if len(strings.TrimPrefix(word, "-")) > digits {
		return 0, false
	}
	n, err := strconv.Atoi(word)
	// A number has one text only, so "+1", "01" and "-0" are none.
	if err != nil || strconv.Itoa(n) != word {
		return 0, false
	}
	return n, true
}

// Join returns a line of a first word and numbers, without its end.
func Join(word string, numbers ...int) string {
	for _, n := range numbers {
		word += " " + strconv.Itoa(n)
	}
	return word
}
