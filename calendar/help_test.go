package calendar_test

import (
	"math"
	"slices"
	"testing"
	"time"

	"turnround/api"
	"turnround/calendar"
)

// Numbers that are on an edge of some range, or far outside of all of them.
var oddNumbers = []int{
	math.MinInt, math.MinInt + 1, math.MinInt32, -100000, -99999, -721, -720, -181, -1, 0, 1, 2, 7, 64, 127, 128, 400, 401,
	840, 841, 2000, 2026, 2272, 2273, 99998, 99999, 100000, 143999999, 144000000, math.MaxInt32, math.MaxInt - 1, math.MaxInt,
}

// outsideDays are no days.
var outsideDays = []int{math.MinInt, -100000, -1, 100000, math.MaxInt}

// badPeriods has periods with each error, and with later errors beside it.
var badPeriods = []struct {
	p api.Period
	e api.Errno
}{
	{api.Period{From: -1, To: 10, Days: 1}, api.ErrRange},
	{api.Period{From: 100000, To: 99999, Days: 1}, api.ErrRange},
	{api.Period{From: math.MinInt, To: math.MaxInt, Days: 0}, api.ErrRange},
	{api.Period{From: 10, To: -1, Days: 1}, api.ErrRange},
	{api.Period{From: 99999, To: 100000, Days: 1}, api.ErrRange},
	{api.Period{From: 0, To: 100000, Days: 1}, api.ErrRange},
	{api.Period{From: 10, To: 9, Days: 1}, api.ErrOrder},
	{api.Period{From: 500, To: 0, Days: 0}, api.ErrOrder},
	{api.Period{From: 10, To: 411, Days: 1}, api.ErrLarge},
	{api.Period{From: 10, To: 411, Days: 0}, api.ErrLarge},
	{api.Period{From: 0, To: 99999, Days: 128}, api.ErrLarge},
	{api.Period{From: 10, To: 10, Days: 0}, api.ErrRange},
	{api.Period{From: 10, To: 20, Days: 128}, api.ErrRange},
	{api.Period{From: 10, To: 20, Days: -1}, api.ErrRange},
}

// badSeasons has seasons with each error, and with the later error beside it.
var badSeasons = []struct {
	s calendar.Season
	e api.Errno
}{
	{calendar.Season{Year: 1999, Kind: "W"}, api.ErrRange},
	{calendar.Season{Year: 2273, Kind: "S"}, api.ErrRange},
	{calendar.Season{Year: math.MinInt, Kind: "S"}, api.ErrRange},
	{calendar.Season{Year: math.MaxInt, Kind: "S"}, api.ErrRange},
	{calendar.Season{Year: 1999, Kind: "X"}, api.ErrRange},
	{calendar.Season{Year: 2273, Kind: ""}, api.ErrRange},
	{calendar.Season{Year: 2026, Kind: ""}, api.ErrKind},
	{calendar.Season{Year: 2000, Kind: "s"}, api.ErrKind},
	{calendar.Season{Year: 2272, Kind: "w"}, api.ErrKind},
	{calendar.Season{Year: 2026, Kind: "SW"}, api.ErrKind},
	{calendar.Season{Year: 2026, Kind: "S "}, api.ErrKind},
}

func is[T comparable](t *testing.T, what string, got, want T) {
	t.Helper()
	if got != want {
		t.Errorf("%s: got %v, want %v", what, got, want)
	}
}

// isList compares lists; nil and empty ones are equal.
func isList[T comparable](t *testing.T, what string, got, want []T) {
	t.Helper()
	if !slices.Equal(got, want) {
		t.Errorf("%s: got %v, want %v", what, got, want)
	}
}

// isZero reports a result beside an error that is not the zero value.
func isZero[T comparable](t *testing.T, what string, got T, e api.Errno) {
	t.Helper()
	var zero T
	if e != api.OK && got != zero {
		t.Errorf("%s: got %v beside the error %d", what, got, e)
	}
}

// timeOf is the beginning of a day by the standard library.
func timeOf(day int) time.Time {
	return time.Date(2000, 1, 1+day, 0, 0, 0, 0, time.UTC)
}

// dayAt is the day on which a time lies.
func dayAt(at time.Time) int {
	return int(at.Sub(timeOf(0)) / (24 * time.Hour))
}

// weekdayAt is the weekday of a time with 0 for Monday.
func weekdayAt(at time.Time) int { return (int(at.Weekday()) + 6) % 7 }

// lastSundayOf looks for the last Sunday of a month from its last day back.
func lastSundayOf(year int, month time.Month) int {
	at := time.Date(year, month+1, 0, 0, 0, 0, 0, time.UTC)
	for at.Weekday() != time.Sunday {
		at = at.AddDate(0, 0, -1)
	}
	return dayAt(at)
}

// inPeriod is the definition of the days of a period.
func inPeriod(p api.Period, day int) bool {
	return p.From <= day && day <= p.To && p.Days&(1<<weekdayAt(timeOf(day))) != 0
}

// noise is a fixed sequence of numbers from 0 to n - 1 for lists of many forms.
type noise uint32

func (x *noise) next(n int) int {
	*x = *x*1664525 + 1013904223
	return int(*x>>8) % n
}
