package message_test

import (
	"fmt"
	"strings"
	"testing"

	"turnround/api"
	"turnround/message"
)

// P2.2: each minute of the day has its string, and the string its minute.
func TestMinutes(t *testing.T) {
	for minute := range 1440 {
		want := fmt.Sprintf("%02d%02d", minute/60, minute%60)
		s, e := message.PrintMinute(minute)
		is(t, fmt.Sprint("PrintMinute ", minute), s, want)
		is(t, fmt.Sprint("PrintMinute ", minute), e, api.OK)
		n, e := message.ParseMinute(want)
		is(t, "ParseMinute "+want, n, minute)
		is(t, "ParseMinute "+want, e, api.OK)
	}
	for s, want := range map[string]int{"1005": 605, "0005": 5, "0000": 0, "2359": 1439, "0100": 60} {
		n, _ := message.ParseMinute(s)
		is(t, "ParseMinute "+s, n, want)
	}
}

// P2.2: what is no minute has no string.
func TestNoMinutes(t *testing.T) {
	for _, minute := range noMinutes {
		s, e := message.PrintMinute(minute)
		is(t, fmt.Sprint("PrintMinute ", minute), e, api.ErrRange)
		is(t, fmt.Sprint("PrintMinute ", minute), s, "")
	}
}

// P2.2: four digits that are no hour and minute, and strings of other forms, are no minutes.
func TestNoStringsOfMinutes(t *testing.T) {
	bad := []string{"", "0", "005", "00005", "10:5", "10:05", "1005 ", " 1005", "1005\n", "-001", "+001", "1 05", "100a", "x005", "１００５", "٠٠", "\xff\xff\xff\xff", "\x00\x00\x00\x00", "10é", "99999999999999999999", strings.Repeat("0", 5000)}
	for n := range 10000 {
		if n/100 > 23 || n%100 > 59 {
			bad = append(bad, fmt.Sprintf("%04d", n))
		}
	}
	for _, s := range bad {
		n, e := message.ParseMinute(s)
		is(t, "ParseMinute "+s, e, api.ErrSyntax)
		is(t, "ParseMinute "+s, n, 0)
	}
	// Each byte that is no digit, at each place.
	for i := range 4 {
		for b := range 256 {
			if '0' <= b && b <= '9' {
				continue
			}
			s := []byte("0000")
			s[i] = byte(b)
			_, e := message.ParseMinute(string(s))
			is(t, fmt.Sprintf("ParseMinute %q", s), e, api.ErrSyntax)
		}
	}
}
