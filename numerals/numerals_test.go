package numerals_test

import (
	"fmt"
	"strings"
	"testing"

	"turnround/numerals"
)

// Rules: a number has its digits, with zeros before them up to the width, and all of them if there are more.
func TestPadded(t *testing.T) {
	for _, n := range []int{0, 1, 9, 10, 11, 99, 100, 9999942, 999999999} {
		for width := range 12 {
			if got, want := numerals.Padded(n, width), fmt.Sprintf("%0*d", width, n); got != want {
				t.Errorf("Padded of %d and %d: got %q, want %q", n, width, got, want)
			}
		}
	}
	for width, want := range map[int]string{-1: "7", 0: "7", 1: "7", 2: "07", 7: "0000007"} {
		if got := numerals.Padded(7, width); got != want {
			t.Errorf("Padded of 7 and %d: got %q, want %q", width, got, want)
		}
	}
}

// Rules: a string with a width has so many digits, and nothing else.
func TestFixed(t *testing.T) {
	for n := range 1200 {
		for width := 4; width < 10; width++ {
			if got, ok := numerals.Fixed(fmt.Sprintf("%0*d", width, n), width); got != n || !ok {
				t.Errorf("Fixed of %d with the width %d: got %d, %v", n, width, got, ok)
			}
		}
	}
	for _, x := range []struct {
		s     string
		width int
	}{
		{"", 1}, {"1", 0}, {"1", -1}, {"", -1}, {"1", 2}, {"12", 1}, {"012", 2}, {"12 ", 3}, {" 12", 3}, {"-12", 3}, {"+12", 3}, {"1_2", 3}, {"0x1", 3}, {"1/2", 3}, {"1:2", 3}, {"é", 2}, {"\u0661", 2}, {"\xff\xff", 2}, {"\x00", 1}, {"1\n", 2}, {strings.Repeat("1", 8), 7},
	} {
		if got, ok := numerals.Fixed(x.s, x.width); got != 0 || ok {
			t.Errorf("Fixed of %q with the width %d: got %d, %v", x.s, x.width, got, ok)
		}
	}
	if got, ok := numerals.Fixed("", 0); got != 0 || !ok {
		t.Errorf("Fixed of nothing: got %d, %v", got, ok)
	}
}

// Rules: a number from 0 to MaxNumber has digits alone, at most nine of them, without leading zeros.
func TestPlain(t *testing.T) {
	for _, n := range []int{0, 1, 9, 10, 100, 1440, 99999, 100000, 999999998, 999999999} {
		if got, ok := numerals.Plain(fmt.Sprint(n)); got != n || !ok {
			t.Errorf("Plain of %d: got %d, %v", n, got, ok)
		}
	}
	for _, s := range []string{"", " ", "00", "01", "007", "0000000000", "1000000000", "9999999999", "99999999999999999999", "-0", "-1", "+0", "+1", " 1", "1 ", "1\n", "\n1", "1_0", "0x1", "1e3", "1.0", "a", "1a", "a1", "é", "\u0661", "\xff", "\x00", strings.Repeat("0", 5000), strings.Repeat("1", 5000)} {
		if got, ok := numerals.Plain(s); got != 0 || ok {
			t.Errorf("Plain of %q: got %d, %v", s, got, ok)
		}
	}
}
