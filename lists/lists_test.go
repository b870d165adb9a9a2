package lists_test

import (
	"slices"
	"strconv"
	"testing"

	"turnround/lists"
)

// Rules: a list is transformed element by element, in its order, and stays as it is.
func TestTransform(t *testing.T) {
	for _, numbers := range [][]int{nil, {}, {7}, {3, 1, 2, 1}} {
		before := slices.Clone(numbers)
		got := lists.Transform(numbers, strconv.Itoa)
		if len(got) != len(numbers) {
			t.Errorf("Transform of %v: got %q", numbers, got)
		}
		for i, s := range got {
			if s != strconv.Itoa(numbers[i]) {
				t.Errorf("Transform of %v at %d: got %q", numbers, i, s)
			}
		}
		if !slices.Equal(numbers, before) {
			t.Errorf("Transform changed %v to %v", before, numbers)
		}
	}
	same := []int{1, 2, 3}
	copied := lists.Transform(same, func(n int) int { return n })
	copied[0] = 9
	_ = append(copied[:1], 9)
	if !slices.Equal(same, []int{1, 2, 3}) {
		t.Errorf("Transform shares memory: %v", same)
	}
}

// Rules: the elements that are kept are in their order, and the list stays as it is.
func TestFilter(t *testing.T) {
	isOdd := func(n int) bool { return n%2 == 1 }
	for _, x := range []struct{ numbers, want []int }{
		{nil, nil}, {[]int{}, nil}, {[]int{2, 4}, nil}, {[]int{7}, []int{7}}, {[]int{3, 2, 1, 4, 1}, []int{3, 1, 1}}, {[]int{5, 3}, []int{5, 3}},
	} {
		before := slices.Clone(x.numbers)
		got := lists.Filter(x.numbers, isOdd)
		if !slices.Equal(got, x.want) {
			t.Errorf("Filter of %v: got %v, want %v", x.numbers, got, x.want)
		}
		clear(got)
		if !slices.Equal(x.numbers, before) {
			t.Errorf("Filter changed %v to %v, or shares memory", before, x.numbers)
		}
	}
}

// Rules: a sum has the number of each element once, also with its index.
func TestSum(t *testing.T) {
	for _, words := range [][]string{nil, {""}, {"abc"}, {"abc", "", "d", "d"}} {
		length, places := 0, 0
		for i, word := range words {
			length += len(word)
			places += i * len(word)
		}
		if got := lists.Sum(words, func(_ int, word string) int { return len(word) }); got != length {
			t.Errorf("Sum of the lengths of %q: got %d, want %d", words, got, length)
		}
		if got := lists.Sum(words, func(i int, word string) int { return i * len(word) }); got != places {
			t.Errorf("Sum with indices of %q: got %d, want %d", words, got, places)
		}
	}
	if got := lists.Sum([]int{5, -7}, func(_, n int) int { return n }); got != -2 {
		t.Errorf("Sum below 0: got %d", got)
	}
}

// Rules: things are numbered from 0 on.
func TestAscending(t *testing.T) {
	for n, want := range [][]int{{}, {0}, {0, 1}, {0, 1, 2}} {
		if got := lists.Ascending(n); !slices.Equal(got, want) {
			t.Errorf("Ascending of %d: got %v, want %v", n, got, want)
		}
	}
}
