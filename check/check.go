// Package check finds the first error of several values, as the rules R1 and R2 ask for.
package check

import "shotline/api"

// Within tells whether n is from least to most.
func Within(n, least, most int) bool {
	return least <= n && n <= most
}

// Range returns ErrRange if n is not from least to most.
func Range(n, least, most int) api.Errno {
	if !Within(n, least, most) {
		return api.ErrRange
	}
	return api.OK
}

// First returns the first error of a list that is one.
func First(list ...api.Errno) api.Errno {
	for _, e := range list {
		if e != api.OK {
			return e
		}
	}
	return api.OK
}

// Each returns the error of the first element of a list that has one.
func Each[T any](list []T, errorOf func(T) api.Errno) api.Errno {
	_, e := Numbered(list, func(_ int, x T) api.Errno { return errorOf(x) })
	return e
}

// Numbered returns the number of the first element of a list that has an error, and this error. An error may depend on the
// number, too.
func Numbered[T any](list []T, errorOf func(number int, x T) api.Errno) (int, api.Errno) {
	for number, x := range list {
		if e := errorOf(number, x); e != api.OK {
			return number, e
		}
	}
	return 0, api.OK
}
