// Package lists makes lists, of numbers and of other lists, and sums; all layers use it.
package lists

// Transform returns what becomes of each element of a list.
func Transform[S, T any](list []S, become func(S) T) []T {
	changed := make([]T, len(list))
	for i, x := range list {
		changed[i] = become(x)
	}
	return changed
}

// Filter returns the elements of a list that are to be kept, in their order.
func Filter[T any](list []T, keep func(T) bool) []T {
	var kept []T
	for _, x := range list {
		if keep(x) {
			kept = append(kept, x)
		}
	}
	return kept
}

// Sum returns the sum of the numbers of all elements of a list.
func Sum[T any](list []T, numberOf func(i int, x T) int) int {
	sum := 0
	for i, x := range list {
		sum += numberOf(i, x)
	}
	return sum
}

// Ascending returns the numbers from 0 to n - 1.
func Ascending(n int) []int {
	list := make([]int, n)
	for i := range n {
		list[i] = i
	}
	return list
}
