package message

import (
	"turnround/api"
	"turnround/check"
)

const (
	minutesOfHour = 60
	hoursOfDay    = 24
)

// PrintMinute returns the string of a minute of a day.
func PrintMinute(minute int) (string, api.Errno) {
	if e := check.Minute(minute); e != api.OK {
		return "", e
	}
	return digits(minute/minutesOfHour, 2) + digits(minute%minutesOfHour, 2), api.OK
}

// ParseMinute returns the minute of a string.
func ParseMinute(s string) (int, api.Errno) {
	n, ok := number(s, 4)
	hour, minute := n/100, n%100
	if !ok || hour >= hoursOfDay || minute >= minutesOfHour {
		return 0, api.ErrSyntax
	}
	return hour*minutesOfHour + minute, api.OK
}

// digits returns the string of a number with a width, which is not too small for it.
func digits(n, width int) string {
	text := make([]byte, width)
	for i := range width {
		text[width-1-i] = byte('0' + n%10)
		n /= 10
	}
	return string(text)
}

// number returns the number of a string, and whether the string has as many digits as the width.
func number(s string, width int) (int, bool) {
	if len(s) != width {
		return 0, false
	}
	n := 0
	for _, r := range s {
		if r < '0' || r > '9' {
			return 0, false
		}
		n = 10*n + int(r-'0')
	}
	return n, true
}
