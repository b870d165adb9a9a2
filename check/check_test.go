package check_test

import (
	"math"
	"testing"

	"turnround/api"
	"turnround/check"
)

// Rules: a function returns the first error.
func TestFirst(t *testing.T) {
	for _, x := range []struct {
		errs []api.Errno
		want api.Errno
	}{
		{nil, api.OK},
		{[]api.Errno{api.OK}, api.OK},
		{[]api.Errno{api.OK, api.OK, api.OK}, api.OK},
		{[]api.Errno{api.ErrForm}, api.ErrForm},
		{[]api.Errno{api.ErrPair, api.ErrForm}, api.ErrPair},
		{[]api.Errno{api.OK, api.ErrKind, api.OK}, api.ErrKind},
		{[]api.Errno{api.OK, api.OK, api.ErrName, api.ErrKind}, api.ErrName},
	} {
		if got := check.First(x.errs...); got != x.want {
			t.Errorf("First of %v: got %d, want %d", x.errs, got, x.want)
		}
	}
}

// Rules: an error that is named with a condition is returned only where the condition fails.
func TestUnless(t *testing.T) {
	if got := check.Unless(true, api.ErrKind); got != api.OK {
		t.Errorf("Unless true: got %d", got)
	}
	if got := check.Unless(false, api.ErrKind); got != api.ErrKind {
		t.Errorf("Unless false: got %d", got)
	}
}

// Rules: "from m to n" includes the numbers named.
func TestRange(t *testing.T) {
	for _, x := range []struct {
		n, least, most int
		want           api.Errno
	}{
		{0, 0, 9, api.OK},
		{9, 0, 9, api.OK},
		{5, 0, 9, api.OK},
		{-1, 0, 9, api.ErrRange},
		{10, 0, 9, api.ErrRange},
		{7, 7, 7, api.OK},
		{6, 7, 7, api.ErrRange},
		{8, 7, 7, api.ErrRange},
		{5, 9, 0, api.ErrRange},
		{math.MinInt, 0, 9, api.ErrRange},
		{math.MaxInt, 0, 9, api.ErrRange},
	} {
		if got := check.Range(x.n, x.least, x.most); got != x.want {
			t.Errorf("Range of %d from %d to %d: got %d, want %d", x.n, x.least, x.most, got, x.want)
		}
	}
}

// Rules: the first element with an error decides, with the first of its errors.
func TestNamed(t *testing.T) {
	self := func(s string) string { return s }
	for _, x := range []struct {
		list []string
		most int
		want api.Errno
	}{
		{nil, 0, api.OK},
		{[]string{"a"}, 0, api.ErrMany},
		{[]string{"a", "b", "c"}, 3, api.OK},
		{[]string{"a", "b", "c"}, 2, api.ErrMany},
		{[]string{"a", "", "a"}, 2, api.ErrMany},
		{[]string{"a", "b", "a"}, 3, api.ErrTwice},
		{[]string{"a", "", "a"}, 3, api.ErrName},
		{[]string{"a", "a", ""}, 3, api.ErrTwice},
		{[]string{"", ""}, 3, api.ErrName},
		{[]string{"a", "1", ""}, 3, api.ErrName},
	} {
		if got := check.Named(x.list, x.most, self, check.Name); got != x.want {
			t.Errorf("Named of %q and %d: got %d, want %d", x.list, x.most, got, x.want)
		}
	}
	once := func(s string) api.Errno { return check.Unless(s != "b", api.ErrKind) }
	first := func(s string) string { return s[:1] }
	if got := check.Named([]string{"aa", "ab"}, 9, first, once); got != api.ErrTwice {
		t.Errorf("Named of two elements with one name: got %d", got)
	}
	if got := check.Named([]string{"bb", "b"}, 9, first, once); got != api.ErrKind {
		t.Errorf("Named of a name twice with another error: got %d", got)
	}
}
