// Package check finds the first error of arguments; all layers use it.
package check

import "turnround/api"

// First returns the first of the errors that is not OK, or OK if there is none.
func First(errs ...api.Errno) api.Errno {
	for _, e := range errs {
		if e != api.OK {
			return e
		}
	}
	return api.OK
}

// Unless returns OK if a condition holds, and otherwise the error.
func Unless(holds bool, e api.Errno) api.Errno {
	if holds {
		return api.OK
	}
	return e
}

// Range returns ErrRange if a number is below the least or above the most one, otherwise OK.
func Range(n, least, most int) api.Errno {
	return Unless(least <= n && n <= most, api.ErrRange)
}

// Named returns the first error of a list with at most so many elements, each with a name that no element before it has.
func Named[T any](list []T, most int, nameOf func(T) string, checkOne func(T) api.Errno) api.Errno {
	if len(list) > most {
		return api.ErrMany
	}
	seen := map[string]bool{}
	for _, x := range list {
		if e := First(checkOne(x), Unless(!seen[nameOf(x)], api.ErrTwice)); e != api.OK {
			return e
		}
		seen[nameOf(x)] = true
	}
	return api.OK
}
