package check_test

import (
	"math"
	"testing"

	"turnround/api"
	"turnround/check"
)

// Rules: a function returns the first error.
func TestFirst(t *testing.T) {
	for _, x := range []struct {
		errs []api.Errno
		want api.Errno
	}{
		{nil, api.OK},
		{[]api.Errno{api.OK}, api.OK},
		{[]api.Errno{api.OK, api.OK, api.OK}, api.OK},
		{[]api.Errno{api.ErrForm}, api.ErrForm},
		{[]api.Errno{api.ErrPair, api.ErrForm}, api.ErrPair},
		{[]api.Errno{api.OK, api.ErrKind, api.OK}, api.ErrKind},
		{[]api.Errno{api.OK, api.OK, api.ErrName, api.ErrKind}, api.ErrName},
	} {
		if got := check.First(x.errs...); got != x.want {
			t.Errorf("First of %v: got %d, want %d", x.errs, got, x.want)
		}
	}
}

// Rules: an error that is named with a condition is returned only where the condition fails.
func TestUnless(t *testing.T) {
	if got := check.Unless(true, api.ErrKind); got != api.OK {
		t.Errorf("Unless true: got %d", got)
	}
	if got := check.Unless(false, api.ErrKind); got != api.ErrKind {
		t.Errorf("Unless false: got %d", got)
	}
}

// Rules: "from m to n" includes the numbers named.
func TestRange(t *testing.T) {
	for _, x := range []struct {
		n, least, most int
		want           api.Errno
	}{
		{0, 0, 9, api.OK},
		{9, 0, 9, api.OK},
		{5, 0, 9, api.OK},
		{-1, 0, 9, api.ErrRange},
		{10, 0, 9, api.ErrRange},
		{7, 7, 7, api.OK},
		{6, 7, 7, api.ErrRange},
		{8, 7, 7, api.ErrRange},
		{5, 9, 0, api.ErrRange},
		{math.MinInt, 0, 9, api.ErrRange},
		{math.MaxInt, 0, 9, api.ErrRange},
	} {
		if got := check.Range(x.n, x.least, x.most); got != x.want {
			t.Errorf("Range of %d from %d to %d: got %d, want %d", x.n, x.least, x.most, got, x.want)
		}
	}
}

// Rules: the first element with an error decides; "at most n" includes n.
func TestList(t *testing.T) {
	for _, x := range []struct {
		list []string
		most int
		want api.Errno
	}{
		{nil, 0, api.OK},
		{[]string{"a"}, 0, api.ErrMany},
		{[]string{"a"}, -1, api.ErrMany},
		{[]string{"a", "a", "a"}, 3, api.OK},
		{[]string{"a", "a", "a"}, 2, api.ErrMany},
		{[]string{"", "a", "a"}, 2, api.ErrMany},
		{[]string{"", "a", "a"}, 3, api.ErrName},
		{[]string{"a", "a", ""}, 3, api.ErrName},
	} {
		if got := check.List(x.list, x.most, check.Name); got != x.want {
			t.Errorf("List of %q and %d: got %d, want %d", x.list, x.most, got, x.want)
		}
	}
	asIs := func(e api.Errno) api.Errno { return e }
	if got := check.List([]api.Errno{api.OK, api.ErrKind, api.OK, api.ErrForm}, 4, asIs); got != api.ErrKind {
		t.Errorf("List of two errors: got %d", got)
	}
	calls := 0
	count := func(int) api.Errno {
		calls++
		return check.Unless(calls < 2, api.ErrForm)
	}
	if got := check.List([]int{1, 2, 3}, 3, count); got != api.ErrForm || calls != 2 {
		t.Errorf("List with an error of the second element: got %d after %d calls", got, calls)
	}
}

// Rules: the same thing twice is an error at the second place; another list may have it, too.
func TestOnce(t *testing.T) {
	once := check.Once()
	for i, x := range []struct {
		s    string
		want api.Errno
	}{
		{"a", api.OK}, {"b", api.OK}, {"a", api.ErrTwice}, {"A", api.OK}, {"", api.OK}, {"a", api.ErrTwice}, {"", api.ErrTwice}, {"b", api.ErrTwice},
	} {
		if got := once(x.s); got != x.want {
			t.Errorf("Once of %q at %d: got %d, want %d", x.s, i, got, x.want)
		}
	}
	if got := check.Once()("a"); got != api.OK {
		t.Errorf("Once of another list: got %d", got)
	}
}

// Rules: the first element with an error decides, with the first of its errors.
func TestNamed(t *testing.T) {
	self := func(s string) string { return s }
	for _, x := range []struct {
		list []string
		most int
		want api.Errno
	}{
		{nil, 0, api.OK},
		{[]string{"a"}, 0, api.ErrMany},
		{[]string{"a", "b", "c"}, 3, api.OK},
		{[]string{"a", "b", "c"}, 2, api.ErrMany},
		{[]string{"a", "", "a"}, 2, api.ErrMany},
		{[]string{"a", "b", "a"}, 3, api.ErrTwice},
		{[]string{"a", "", "a"}, 3, api.ErrName},
		{[]string{"a", "a", ""}, 3, api.ErrTwice},
		{[]string{"", ""}, 3, api.ErrName},
		{[]string{"a", "1", ""}, 3, api.ErrName},
	} {
		if got := check.Named(x.list, x.most, self, check.Name); got != x.want {
			t.Errorf("Named of %q and %d: got %d, want %d", x.list, x.most, got, x.want)
		}
	}
	once := func(s string) api.Errno { return check.Unless(s != "b", api.ErrKind) }
	first := func(s string) string { return s[:1] }
	if got := check.Named([]string{"aa", "ab"}, 9, first, once); got != api.ErrTwice {
		t.Errorf("Named of two elements with one name: got %d", got)
	}
	if got := check.Named([]string{"bb", "b"}, 9, first, once); got != api.ErrKind {
		t.Errorf("Named of a name twice with another error: got %d", got)
	}
}
