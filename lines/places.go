package lines

import "strconv"

// Word is a place of something that stands in a line as one of some words.
type Word interface {
	// Word returns the word of what is in the place.
	Word() string
	// Take puts into the place what a word stands for, and tells whether it is one of the words.
	Take(word string) bool
}

// Written returns a line of a first word, and of what stands in places, without its end. A place points to a string or to
// an int, or is a Word.
func Written(word string, places ...any) string {
	for _, place := range places {
		switch p := place.(type) {
		case *string:
			word += " " + *p
		case *int:
			word += " " + strconv.Itoa(*p)
		case Word:
			word += " " + p.Word()
		}
	}
	return word
}

// Read puts words into as many places, and tells whether each one fits: a string takes any word, an int a number of at
// most so many digits, a Word one of its words.
func Read(words []string, digits int, places ...any) bool {
	if len(words) != len(places) {
		return false
	}
	for i, place := range places {
		switch p := place.(type) {
		case *string:
			*p = words[i]
		case *int:
			n, ok := Number(words[i], digits)
			if !ok {
				return false
			}
			*p = n
		case Word:
			if !p.Take(words[i]) {
				return false
			}
		}
	}
	return true
}
