// Package lists makes lists, of numbers and of other lists; all layers use it.
package lists

// Transform returns what becomes of each element of a list.
func Transform[S, T any](list []S, become func(S) T) []T {
	changed := make([]T, len(list))
	for i, x := range list {
		changed[i] = become(x)
	}
	return changed
}

// Ascending returns the numbers from 0 to n - 1.
func Ascending(n int) []int {
	list := make([]int, n)
	for i := range n {
		list[i] = i
	}
	return list
}
