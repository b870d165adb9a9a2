// Package check finds the first error of arguments; all layers use it.
package check

import "turnround/api"

// First returns the first of the errors that is not OK, or OK if there is none.
func First(errs ...api.Errno) api.Errno {
	for _, e := range errs {
		if e != api.OK {
			return e
		}
	}
	return api.OK
}

// Unless returns OK if a condition holds, and otherwise the error.
func Unless(holds bool, e api.Errno) api.Errno {
	if holds {
		return api.OK
	}
	return e
}

// Range returns ErrRange if a number is below the least or above the most one, otherwise OK.
func Range(n, least, most int) api.Errno {
	return Unless(least <= n && n <= most, api.ErrRange)
}

// List returns ErrMany for a list with more than so many elements, otherwise the error of the first element with one, or OK.
func List[T any](list []T, most int, checkOne func(T) api.Errno) api.Errno {
	if len(list) > most {
		return api.ErrMany
	}
	for _, x := range list {
		if e := checkOne(x); e != api.OK {
			return e
		}
	}
	return api.OK
}

// Named returns the first error of a list with at most so many elements, each with a name that no element before it has.
func Named[T any](list []T, most int, nameOf func(T) string, checkOne func(T) api.Errno) api.Errno {
	once := Once()
	return List(list, most, func(x T) api.Errno { return First(checkOne(x), once(nameOf(x))) })
}

// Once returns a function that returns ErrTwice for a string that it was called with before, otherwise OK.
func Once() func(string) api.Errno {
	seen := map[string]bool{}
	return func(s string) api.Errno {
		e := Unless(!seen[s], api.ErrTwice)
		seen[s] = true
		return e
	}
}
