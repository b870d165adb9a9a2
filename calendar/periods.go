package calendar

import (
	"iter"
	"math/bits"

	"turnround/api"
	"turnround/check"
)

// CheckPeriod returns the first error of a period, or OK.
func CheckPeriod(p api.Period) api.Errno {
	return check.First(
		check.Days(p.From, p.To),
		check.Unless(p.To-p.From <= api.MaxSpan, api.ErrLarge),
		checkMask(p.Days),
	)
}

// Has reports whether a day is one of a period.
func Has(p api.Period, day int) (bool, api.Errno) {
	if e := check.First(CheckPeriod(p), check.Day(day)); e != api.OK {
		return false, e
	}
	return has(p, day), api.OK
}

// DaysOf returns the days of a period.
func DaysOf(p api.Period) ([]int, api.Errno) {
	if e := CheckPeriod(p); e != api.OK {
		return nil, e
	}
	return collect(daysIn(p), func(int) bool { return true }), api.OK
}

// Count returns the number of days of a period.
func Count(p api.Period) (int, api.Errno) {
	if e := CheckPeriod(p); e != api.OK {
		return 0, e
	}
	n := 0
	for range daysIn(p) {
		n++
	}
	return n, api.OK
}

// Meet returns the days that two periods have in common.
func Meet(a, b api.Period) ([]int, api.Errno) {
	if e := check.First(CheckPeriod(a), CheckPeriod(b)); e != api.OK {
		return nil, e
	}
	return collect(daysIn(a), func(day int) bool { return has(b, day) }), api.OK
}

// Split returns the parts of a period before a day, and from it on.
func Split(p api.Period, day int) ([2]api.Period, api.Errno) {
	if e := check.First(CheckPeriod(p), check.Unless(p.From < day && day <= p.To, api.ErrOutside)); e != api.OK {
		return [2]api.Period{}, e
	}
	before, after := p, p
	before.To = day - 1
	after.From = day
	return [2]api.Period{before, after}, api.OK
}

// Shift returns a period that is moved by a number of days.
func Shift(p api.Period, by int) (api.Period, api.Errno) {
	if e := check.First(CheckPeriod(p), check.Range(by, -api.MaxDay, api.MaxDay)); e != api.OK {
		return api.Period{}, e
	}
	moved := api.Period{From: p.From + by, To: p.To + by, Days: turn(p.Days, by)}
	if moved.From < 0 || moved.To > api.MaxDay {
		return api.Period{}, api.ErrOutside
	}
	return moved, api.OK
}

// Join returns the canonical periods of days.
func Join(days []int) ([]api.Period, api.Errno) {
	if e := checkAscending(days); e != api.OK {
		return nil, e
	}
	masks := weekMasks(days)
	var periods []api.Period
	for len(days) > 0 {
		n := runLength(days, masks)
		periods = append(periods, api.Period{From: days[0], To: days[n-1], Days: masks[week(days[0])]})
		days = days[n:]
	}
	return periods, api.OK
}

// daysIn visits the days of a period in ascending order.
func daysIn(p api.Period) iter.Seq[int] {
	return func(yield func(int) bool) {
		for day := p.From; day <= p.To; day++ {
			if has(p, day) && !yield(day) {
				return
			}
		}
	}
}

func has(p api.Period, day int) bool {
	return p.From <= day && day <= p.To && p.Days>>weekday(day)&1 == 1
}

// turn returns the mask of the weekdays that are a number of days after those of a mask, or before them if it is negative.
func turn(mask, by int) int {
	steps := (by%7 + 7) % 7
	return (mask<<steps | mask>>(7-steps)) & everyDay
}

func checkAscending(days []int) api.Errno {
	if len(days) > MaxDays {
		return api.ErrMany
	}
	for i, day := range days {
		if e := check.First(check.Day(day), check.Unless(i == 0 || days[i-1] < day, api.ErrOrder)); e != api.OK {
			return e
		}
	}
	return api.OK
}

// weekMasks returns for each week with a day of a list the mask of the weekdays of its days.
func weekMasks(days []int) map[int]int {
	masks := map[int]int{}
	for _, day := range days {
		masks[week(day)] |= 1 << weekday(day)
	}
	return masks
}

// runLength returns how many days at the head of an ascending list are in its first run.
func runLength(days []int, masks map[int]int) int {
	first := week(days[0])
	length := 0
run:
	for n := range MaxWeeks {
		switch masks[first+n] {
		case masks[first]:
			length += bits.OnesCount(uint(masks[first]))
		default:
			break run
		}
	}
	return length
}
