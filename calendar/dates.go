package calendar

import (
	"turnround/api"
	"turnround/check"
	"turnround/numerals"
)

const (
	// The last day lies in the year after MaxYear, the last one of a season.
	lastDateYear = MaxYear + 1

	february = 2
	march    = 3
	october  = 10

	sunday    = 6
	everyDay  = 127
	dateBytes = 10
)

var monthLengths = [12]int{31, 28, 31, 30, 31, 30, 31, 31, 30, 31, 30, 31}

// IsName reports whether a string is a name.
func IsName(s string) bool { return check.IsName(s) }

// Day returns the day of a date.
func Day(year, month, day int) (int, api.Errno) {
	e := check.First(check.Range(year, MinYear, lastDateYear), check.Range(month, 1, 12), check.Range(day, 1, 31))
	if e != api.OK {
		return 0, e
	}
	number := dayOf(year, month, day)
	if day > monthLength(year, month) || number > api.MaxDay {
		return 0, api.ErrNone
	}
	return number, api.OK
}

// Date returns the year, the month and the day of the month of a day.
func Date(day int) ([3]int, api.Errno) {
	if e := check.Day(day); e != api.OK {
		return [3]int{}, e
	}
	return dateOf(day), api.OK
}

// Weekday returns the weekday of a day, 0 for Monday.
func Weekday(day int) (int, api.Errno) {
	if e := check.Day(day); e != api.OK {
		return 0, e
	}
	return weekday(day), api.OK
}

// PrintDate returns the text of the date of a day.
func PrintDate(day int) (string, api.Errno) {
	if e := check.Day(day); e != api.OK {
		return "", e
	}
	date := dateOf(day)
	return numerals.Padded(date[0], 4) + "-" + numerals.Padded(date[1], 2) + "-" + numerals.Padded(date[2], 2), api.OK
}

// ParseDate returns the day of the text of a date.
func ParseDate(s string) (int, api.Errno) {
	if len(s) != dateBytes {
		return 0, api.ErrSyntax
	}
	var date [3]int
	part := 0
	for i, r := range s {
		atDash := i == 4 || i == 7
		switch {
		case atDash && r == '-':
			part++
		case !atDash && check.IsDigit(r):
			date[part] = 10*date[part] + int(r-'0')
		default:
			return 0, api.ErrSyntax
		}
	}
	return Day(date[0], date[1], date[2])
}

// PrintMask returns the text of a mask.
func PrintMask(mask int) (string, api.Errno) {
	if e := checkMask(mask); e != api.OK {
		return "", e
	}
	var text [7]byte
	for w := range text {
		text[w] = '0'
		if mask>>w&1 == 1 {
			text[w] = byte('1' + w)
		}
	}
	return string(text[:]), api.OK
}

// ParseMask returns the mask of a text.
func ParseMask(s string) (int, api.Errno) {
	if len(s) != 7 {
		return 0, api.ErrSyntax
	}
	mask := 0
	for w, r := range s {
		switch r {
		case '0':
		case rune('1' + w):
			mask |= 1 << w
		default:
			return 0, api.ErrSyntax
		}
	}
	return mask, check.Unless(mask != 0, api.ErrSyntax)
}

func checkMask(mask int) api.Errno { return check.Range(mask, 1, everyDay) }

// weekday and week add 5 since day 0 is a Saturday.
func weekday(day int) int { return (day + 5) % 7 }

func week(day int) int { return (day + 5) / 7 }

// dayOf is Day without its limits: other years, and days after the last one, too.
func dayOf(year, month, day int) int {
	number := daysBefore(year) + day - 1
	for m := 1; m < month; m++ {
		number += monthLength(year, m)
	}
	return number
}

func dateOf(day int) [3]int {
	year := yearOf(day)
	day -= daysBefore(year)
	month := 1
	for day >= monthLength(year, month) {
		day -= monthLength(year, month)
		month++
	}
	return [3]int{year, month, day + 1}
}

func yearOf(day int) int {
	// No year is longer than 366 days, so this one is not too late.
	year := MinYear + day/366
	for daysBefore(year+1) <= day {
		year++
	}
	return year
}

// daysBefore returns the number of days from the first one to the beginning of a year from 2000 on.
func daysBefore(year int) int {
	return 365*(year-MinYear) + leapYears(year-1) - leapYears(MinYear-1)
}

// leapYears returns the number of leap years from the year 1 to a year.
func leapYears(year int) int { return year/4 - year/100 + year/400 }

func isLeap(year int) bool { return leapYears(year) > leapYears(year-1) }

func monthLength(year, month int) int {
	if month == february && isLeap(year) {
		return 29
	}
	return monthLengths[month-1]
}

// lastSunday returns the day of the last Sunday of a month of 31 days.
func lastSunday(year, month int) int {
	last := dayOf(year, month, 31)
	return last - (weekday(last)-sunday+7)%7
}
