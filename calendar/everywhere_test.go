package calendar_test

import (
	"fmt"
	"math"
	"slices"
	"strings"
	"testing"

	"turnround/api"
	"turnround/calendar"
)

// oddTexts are strings that are no or unusual names, dates, masks and kinds.
var oddTexts = []string{"", "S", "W", "s", "\x00", "\xff\xfe", "\xe2\x82", "\u00e4\u00f6", "2026-03-29", "2026-02-30", "0000067", "0000000", "1234567", "----------", "\u0662\u0660\u0662\u0666-\u0660", strings.Repeat("9", 4097)}

// P1: no numbers make a function of dates, seasons or lots panic, and each result beside an error is zero.
func TestOddNumbers(t *testing.T) {
	for _, a := range oddNumbers {
		d, e := calendar.Date(a)
		isZero(t, fmt.Sprint("Date ", a), d, e)
		w, e := calendar.Weekday(a)
		isZero(t, fmt.Sprint("Weekday ", a), w, e)
		s, e := calendar.PrintDate(a)
		isZero(t, fmt.Sprint("PrintDate ", a), s, e)
		m, e := calendar.PrintMask(a)
		isZero(t, fmt.Sprint("PrintMask ", a), m, e)
		x, e := calendar.SeasonOf(a)
		isZero(t, fmt.Sprint("SeasonOf ", a), x, e)
		for _, b := range oddNumbers {
			l, e := calendar.Draw(a, b)
			isZero(t, fmt.Sprint("Draw ", a, b), len(l), e)
			for _, c := range oddNumbers {
				n, e := calendar.Day(a, b, c)
				isZero(t, fmt.Sprint("Day ", a, b, c), n, e)
				z, e := calendar.Summer(a, b, c)
				isZero(t, fmt.Sprint("Summer ", a, b, c), z.Offset, e)
				isZero(t, fmt.Sprint("Summer ", a, b, c), len(z.Changes), e)
			}
		}
	}
}

// P1: no periods make a function panic.
func TestOddPeriods(t *testing.T) {
	for _, from := range oddNumbers {
		for _, to := range oddNumbers {
			for _, mask := range oddNumbers {
				p := api.Period{From: from, To: to, Days: mask}
				what := fmt.Sprint(" of ", p)
				bad := calendar.CheckPeriod(p)
				l, e := calendar.DaysOf(p)
				is(t, "DaysOf"+what, e, bad)
				isZero(t, "DaysOf"+what, len(l), e)
				n, e := calendar.Count(p)
				is(t, "Count"+what, e, bad)
				isZero(t, "Count"+what, n, e)
				l, e = calendar.Meet(p, api.Period{From: to, To: from, Days: mask})
				isZero(t, "Meet"+what, len(l), e)
				for _, day := range oddNumbers {
					h, e := calendar.Has(p, day)
					isZero(t, "Has"+what, h, e)
					s, e := calendar.Split(p, day)
					isZero(t, "Split"+what, s, e)
					q, e := calendar.Shift(p, day)
					isZero(t, "Shift"+what, q, e)
				}
			}
		}
	}
}

// P1: no lists, zones or strings make a function panic.
func TestOddLists(t *testing.T) {
	for _, a := range oddNumbers {
		for _, b := range oddNumbers {
			p, e := calendar.Join([]int{a, b, a})
			isZero(t, "Join", len(p), e)
			for _, z := range []calendar.Zone{{Offset: a}, {Offset: a, Changes: steps([2]int{b, a})}, {Changes: steps([2]int{a, 0}, [2]int{b, 0})}, {Changes: steps([2]int{1, a}, [2]int{9000, b})}} {
				l, e := calendar.Local(z, b)
				isZero(t, "Local", l, e)
				u, e := calendar.Universal(z, b)
				isZero(t, "Universal", len(u), e)
				if bad := calendar.CheckZone(z); bad != api.OK {
					is(t, "Universal", e, bad)
				}
			}
		}
	}
	for _, s := range oddTexts {
		calendar.IsName(s)
		d, e := calendar.ParseDate(s)
		isZero(t, "ParseDate of "+s, d, e)
		m, e := calendar.ParseMask(s)
		isZero(t, "ParseMask of "+s, m, e)
		for _, year := range oddNumbers {
			x := calendar.Season{Year: year, Kind: s}
			p, e := calendar.Span(x)
			isZero(t, "Span", p, e)
			next, e := calendar.Next(x)
			isZero(t, "Next", next, e)
			before, e := calendar.Previous(x)
			isZero(t, "Previous", before, e)
			q, e := calendar.Equivalent(year, x)
			isZero(t, "Equivalent", q, e)
		}
	}
}

// Rules: arguments are not modified.
func TestArgumentsStay(t *testing.T) {
	list := every(1, 7, 60)
	calendar.Join(list)
	isList(t, "list of days", list, every(1, 7, 60))
	wrong := []int{5, 4, math.MaxInt, 4}
	calendar.Join(wrong)
	isList(t, "list with an error", wrong, []int{5, 4, math.MaxInt, 4})
	for _, z := range goodZones() {
		before := slices.Clone(z.Changes)
		calendar.CheckZone(z)
		calendar.Local(z, 9000)
		calendar.Universal(z, 9000)
		isList(t, "changes", z.Changes, before)
	}
}

// Rules: results share no memory with arguments, or with each other.
func TestResultsShareNothing(t *testing.T) {
	list := []int{0, 1, 7, 8}
	p, _ := calendar.Join(list)
	list[0] = 99
	isList(t, "Join after its argument was changed", p, []api.Period{{From: 0, To: 8, Days: 96}})
	for what, call := range map[string]func() []int{
		"DaysOf":    func() []int { l, _ := calendar.DaysOf(weekends); return l },
		"Meet":      func() []int { l, _ := calendar.Meet(weekends, weekends); return l },
		"Universal": func() []int { l, _ := calendar.Universal(calendar.Zone{}, 9000); return l },
		"Draw":      func() []int { l, _ := calendar.Draw(1, 256); return l },
	} {
		a := call()
		before := slices.Clone(a)
		b := call()
		isList(t, what+" twice", b, before)
		for i := range a {
			a[i] = -5
		}
		isList(t, what+" after another result was changed", b, before)
		isList(t, what+" called again", call(), before)
	}
	y, _ := calendar.Summer(60, 2026, 2026)
	z, _ := calendar.Summer(60, 2026, 2026)
	y.Changes[0] = calendar.Change{}
	isList(t, "Summer after another result was changed", z.Changes, steps([2]int{13801020, 120}, [2]int{14103420, 60}))
}

// Rules: a longer list behind a slice has no effect, and is not written to.
func TestCapacityHasNoEffect(t *testing.T) {
	long := every(0, 1, 600)
	p, e := calendar.Join(long[:2])
	isList(t, "Join", p, []api.Period{{From: 0, To: 1, Days: 96}})
	is(t, "Join", e, api.OK)
	isList(t, "list", long, every(0, 1, 600))
	changes := manySteps(70)
	is(t, "CheckZone", calendar.CheckZone(calendar.Zone{Changes: changes[:64]}), api.OK)
	calendar.Universal(calendar.Zone{Changes: changes[:3]}, 9000)
	isList(t, "changes", changes, manySteps(70))
}
