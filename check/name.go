package check

import "shotline/api"

// Name returns ErrName if a text is no name.
func Name(s string) api.Errno {
	if !Within(len(s), 1, api.MaxName) || !isLetter(s[0]) {
		return api.ErrName
	}
	return Each([]byte(s), func(c byte) api.Errno {
		if !isLetter(c) && !isDigit(c) && c != '-' {
			return api.ErrName
		}
		return api.OK
	})
}

// Names returns a function that tells the errors of names, one by one: that of a name, or ErrExists if it was told of this
// name before.
func Names() func(name string) api.Errno {
	names := map[string]bool{}
	return func(name string) api.Errno {
		if e := Name(name); e != api.OK {
			return e
		}
		if names[name] {
			return api.ErrExists
		}
		names[name] = true
		return api.OK
	}
}

// Named returns the error of the first element that has one: that of its name, ErrExists if an earlier element has this
// name, or one of its own.
func Named[T any](list []T, nameOf func(T) string, errorOf func(T) api.Errno) api.Errno {
	nameError := Names()
	return Each(list, func(x T) api.Errno {
		return First(nameError(nameOf(x)), errorOf(x))
	})
}

func isLetter(c byte) bool {
	return 'a' <= c && c <= 'z' || 'A' <= c && c <= 'Z'
}

func isDigit(c byte) bool {
	return '0' <= c && c <= '9'
}
