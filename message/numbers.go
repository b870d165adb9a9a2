package message

import (
	"turnround/api"
	"turnround/check"
	"turnround/numerals"
)

const (
	minutesOfHour = 60
	hoursOfDay    = 24
)

// PrintMinute returns the string of a minute of a day.
func PrintMinute(minute int) (string, api.Errno) {
	if e := check.Minute(minute); e != api.OK {
		return "", e
	}
	return numerals.Padded(minute/minutesOfHour, 2) + numerals.Padded(minute%minutesOfHour, 2), api.OK
}

// ParseMinute returns the minute of a string.
func ParseMinute(s string) (int, api.Errno) {
	n, ok := numerals.Fixed(s, 4)
	hour, minute := n/100, n%100
	if !ok || hour >= hoursOfDay || minute >= minutesOfHour {
		return 0, api.ErrSyntax
	}
	return hour*minutesOfHour + minute, api.OK
}
