package check_test

import (
	"cmp"
	"math"
	"strings"
	"testing"

	"turnround/api"
	"turnround/check"
)

// Terms: a name has letters, digits and _, and begins with a letter.
func TestNames(t *testing.T) {
	for _, s := range []string{"a", "Z", "z", "A", "q1", "a_", "A_9", "a0", strings.Repeat("x", 24)} {
		if !check.IsName(s) || check.Name(s) != api.OK || check.OptionalName(s) != api.OK {
			t.Errorf("%q is a name", s)
		}
	}
	for _, s := range []string{"1a", "_a", "-", "a-b", "a b", " a", "a\n", "a@", "a[", "a`", "a{", "a/", "a:", "\x00", "a\xff", "ä", "aé", "a\u0661", strings.Repeat("x", 25), strings.Repeat("é", 12)} {
		if check.IsName(s) || check.Name(s) != api.ErrName || check.OptionalName(s) != api.ErrName {
			t.Errorf("%q is no name", s)
		}
	}
	if check.IsName("") || check.Name("") != api.ErrName || check.OptionalName("") != api.OK {
		t.Errorf("the empty string is no name, but may stand for one")
	}
}

// Terms: the kinds of movements are A and D.
func TestKinds(t *testing.T) {
	for s, want := range map[string]api.Errno{"A": api.OK, "D": api.OK, "": api.ErrKind, "a": api.ErrKind, "T": api.ErrKind, "AD": api.ErrKind, "A ": api.ErrKind} {
		if got := check.Kind(s); got != want || check.IsKind(s) != (want == api.OK) {
			t.Errorf("Kind of %q: got %d, want %d", s, got, want)
		}
	}
}

// Terms: days, minutes of the day and moments have their ranges.
func TestTimes(t *testing.T) {
	for _, x := range []struct {
		what string
		call func(int) api.Errno
		last int
	}{{"Day", check.Day, 99999}, {"Minute", check.Minute, 1439}, {"Moment", check.Moment, 143999999}} {
		for _, n := range []int{0, 1, x.last} {
			if got := x.call(n); got != api.OK {
				t.Errorf("%s of %d: got %d", x.what, n, got)
			}
		}
		for _, n := range []int{math.MinInt, -1, x.last + 1, math.MaxInt} {
			if got := x.call(n); got != api.ErrRange {
				t.Errorf("%s of %d: got %d", x.what, n, got)
			}
		}
	}
}

// Terms: days from a day to another one are both days, and the last one is not before the first one.
func TestDays(t *testing.T) {
	for _, x := range []struct {
		from, to int
		want     api.Errno
	}{
		{0, 0, api.OK}, {0, 99999, api.OK}, {99999, 99999, api.OK}, {5, 6, api.OK},
		{-1, 5, api.ErrRange}, {100000, 100000, api.ErrRange}, {5, -1, api.ErrRange}, {5, 100000, api.ErrRange}, {100000, 5, api.ErrRange}, {math.MinInt, math.MaxInt, api.ErrRange},
		{1, 0, api.ErrOrder}, {99999, 0, api.ErrOrder}, {7, 6, api.ErrOrder},
	} {
		if got := check.Days(x.from, x.to); got != x.want {
			t.Errorf("Days from %d to %d: got %d, want %d", x.from, x.to, got, x.want)
		}
	}
}

// Terms: the digits are 0 to 9.
func TestDigits(t *testing.T) {
	for r := range rune(0x700) {
		if got := check.IsDigit(r); got != strings.ContainsRune("0123456789", r) {
			t.Errorf("IsDigit of %q: got %v", r, got)
		}
	}
}

// Terms: a movement counts for a limit of its kind or of both kinds, and of its terminal or of all.
func TestCounts(t *testing.T) {
	for _, x := range []struct {
		kind, terminal string
		m              api.Movement
		want           bool
	}{
		{"A", "", api.Movement{Kind: "A"}, true},
		{"D", "", api.Movement{Kind: "D"}, true},
		{"A", "", api.Movement{Kind: "D"}, false},
		{"D", "", api.Movement{Kind: "A"}, false},
		{"T", "", api.Movement{Kind: "A"}, true},
		{"T", "", api.Movement{Kind: "D"}, true},
		{"T", "", api.Movement{Kind: "D", Terminal: "t"}, true},
		{"T", "t", api.Movement{Kind: "D", Terminal: "t"}, true},
		{"D", "t", api.Movement{Kind: "D", Terminal: "t"}, true},
		{"A", "t", api.Movement{Kind: "D", Terminal: "t"}, false},
		{"D", "t", api.Movement{Kind: "D", Terminal: "u"}, false},
		{"D", "t", api.Movement{Kind: "D"}, false},
		{"T", "t", api.Movement{Kind: "A"}, false},
	} {
		if got := check.Counts(x.kind, x.terminal, x.m); got != x.want {
			t.Errorf("Counts of %q, %q and %v: got %v", x.kind, x.terminal, x.m, got)
		}
	}
}

// Terms: the order of movements is by moments, then by kinds, then by names (by bytes).
func TestCompareMovements(t *testing.T) {
	ascending := []api.Movement{
		{},
		{Name: "a"},
		{Kind: "A", Name: "B"},
		{Kind: "A", Name: "a"},
		{Kind: "A", Name: "aa"},
		{Kind: "A", Name: "b"},
		{Kind: "D", Name: "A"},
		{Moment: 1, Kind: "A", Name: "A"},
		{Moment: 1, Kind: "A", Name: "\xff"},
		{Moment: 2},
	}
	for i, a := range ascending {
		for j, b := range ascending {
			a.Terminal, a.Seats, a.Size, a.Noise = "z", 9-i, i, 9-i
			if got := check.CompareMovements(a, b); got != cmp.Compare(i, j) {
				t.Errorf("CompareMovements of %v and %v: got %d", a, b, got)
			}
		}
	}
}
