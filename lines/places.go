package lines

import "strconv"

// Written returns a line of a first word, and of what stands in places, without its end. A place points to a string or to
// an int.
func Written(word string, places ...any) string {
	for _, place := range places {
		switch p := place.(type) {
		case *string:
			word += " " + *p
		case *int:
			word += " " + strconv.Itoa(*p)
		}
	}
	return word
}

// Read puts words into as many places, and tells whether each one fits: a string takes any word, an int a number of at
// most so many digits.
func Read(words []string, digits int, places ...any) bool {
	if len(words) != len(places) {
		return false
	}
	for i, place := range places {
		switch p := place.(type) {
		case *string:
			*p = words[i]
		case *int:
			n, ok := Number(words[i], digits)
			if !ok {
				return false
			}
			*p = n
		}
	}
	return true
}
