package calendar_test

import (
	"fmt"
	"slices"
	"testing"

	"turnround/api"
	"turnround/calendar"
)

// P1.6: dates and days, texts and dates are converted there and back; the day after a date is the next date.
func TestDatesThereAndBack(t *testing.T) {
	var before [3]int
	for day := range api.MaxDay + 1 {
		d, _ := calendar.Date(day)
		n, _ := calendar.Day(d[0], d[1], d[2])
		s, _ := calendar.PrintDate(day)
		m, e := calendar.ParseDate(s)
		if n != day || m != day || e != api.OK {
			t.Fatalf("day %d: %v is %d, %q is %d", day, d, n, s, m)
		}
		if s != fmt.Sprintf("%04d-%02d-%02d", d[0], d[1], d[2]) {
			t.Fatalf("day %d: %v is printed as %q", day, d, s)
		}
		if day > 0 && !follows(before, d) {
			t.Fatalf("day %d: %v comes after %v", day, d, before)
		}
		before = d
	}
}

// follows reports whether a date is the next one: the next day of the month, or the first one of the next month if there is no such day.
func follows(a, b [3]int) bool {
	if b == [3]int{a[0], a[1], a[2] + 1} {
		return true
	}
	_, e := calendar.Day(a[0], a[1], a[2]+1)
	if b == [3]int{a[0], a[1] + 1, 1} {
		return e != api.OK
	}
	return a[1] == 12 && a[2] == 31 && b == [3]int{a[0] + 1, 1, 1}
}

// P1.6: masks are converted there and back.
func TestMasksThereAndBack(t *testing.T) {
	for mask := 1; mask <= 127; mask++ {
		s, _ := calendar.PrintMask(mask)
		n, e := calendar.ParseMask(s)
		is(t, "mask of "+s, n, mask)
		is(t, "mask of "+s, e, api.OK)
	}
}

// P1.6: weekdays follow one another.
func TestWeekdaysFollow(t *testing.T) {
	for day := range api.MaxDay {
		a, _ := calendar.Weekday(day)
		b, _ := calendar.Weekday(day + 1)
		if b != (a+1)%7 {
			t.Fatalf("day %d: weekday %d after %d", day, b, a)
		}
	}
}

// P1.6: the days of both parts of a period that is split are its days.
func TestSplitKeepsDays(t *testing.T) {
	for _, p := range somePeriods() {
		all, _ := calendar.DaysOf(p)
		for day := p.From + 1; day <= p.To; day += 1 + (p.To-p.From)/9 {
			s, e := calendar.Split(p, day)
			is(t, "Split", e, api.OK)
			a, _ := calendar.DaysOf(s[0])
			b, _ := calendar.DaysOf(s[1])
			isList(t, fmt.Sprint("days of ", s), append(slices.Clone(a), b...), all)
		}
	}
}

// P1.6: the canonical periods have exactly the days of the list, each once.
func TestJoinKeepsDays(t *testing.T) {
	x := noise(7)
	for range 300 {
		var list []int
		day := x.next(90000)
		for range x.next(513) {
			day += 1 + x.next(3)*x.next(5)
			list = append(list, day)
		}
		periods, e := calendar.Join(list)
		is(t, "Join", e, api.OK)
		var all []int
		for _, p := range periods {
			days, e := calendar.DaysOf(p)
			is(t, fmt.Sprint("DaysOf ", p), e, api.OK)
			all = append(all, days...)
		}
		isList(t, "days of the canonical periods", all, list)
	}
	for _, p := range somePeriods() {
		all, _ := calendar.DaysOf(p)
		periods, _ := calendar.Join(all)
		var joined []int
		for _, q := range periods {
			days, _ := calendar.DaysOf(q)
			joined = append(joined, days...)
		}
		isList(t, fmt.Sprint("days of ", p), joined, all)
	}
}

// P1.6: seasons follow one another without a gap, and begin on Sundays.
func TestSeasonsFollow(t *testing.T) {
	s := calendar.Season{Year: 2000, Kind: "S"}
	for n := 1; ; n++ {
		p, e := calendar.Span(s)
		is(t, "Span", e, api.OK)
		w, _ := calendar.Weekday(p.From)
		is(t, fmt.Sprint("first weekday of ", s), w, 6)
		w, _ = calendar.Weekday(p.To)
		is(t, fmt.Sprint("last weekday of ", s), w, 5)
		for _, day := range []int{p.From, p.To} {
			own, _ := calendar.SeasonOf(day)
			is(t, fmt.Sprint("season of ", day), own, s)
		}
		next, e := calendar.Next(s)
		if e != api.OK {
			is(t, "number of seasons", n, 546)
			is(t, "last season", s, calendar.Season{Year: 2272, Kind: "W"})
			return
		}
		q, _ := calendar.Span(next)
		is(t, fmt.Sprint("first day of ", next), q.From, p.To+1)
		back, _ := calendar.Previous(next)
		is(t, fmt.Sprint("season before ", next), back, s)
		s = next
	}
}

// P1.6: an equivalent day has the same weekday, and lies in the season; from there it leads back.
func TestEquivalentWeekday(t *testing.T) {
	x := noise(8)
	for range 5000 {
		day := 100 + x.next(99000)
		own, e := calendar.SeasonOf(day)
		is(t, "SeasonOf", e, api.OK)
		other := calendar.Season{Year: 2000 + x.next(273), Kind: own.Kind}
		d, e := calendar.Equivalent(day, other)
		if e == api.ErrNone {
			continue
		}
		a, _ := calendar.Weekday(day)
		b, _ := calendar.Weekday(d)
		is(t, fmt.Sprint("weekday of ", d, " for ", day), b, a)
		s, _ := calendar.SeasonOf(d)
		is(t, "its season", s, other)
		back, e := calendar.Equivalent(d, own)
		is(t, "back", back, day)
		is(t, "back", e, api.OK)
	}
}

// P1.6: a universal moment is among those of its local moment.
func TestMomentsThereAndBack(t *testing.T) {
	for _, z := range goodZones() {
		for _, moment := range momentsOf(z) {
			l, e := calendar.Local(z, moment)
			if e == api.ErrOutside {
				continue
			}
			u, e := calendar.Universal(z, l)
			is(t, "Universal", e, api.OK)
			is(t, fmt.Sprint(moment, " is among ", u, " of ", z), slices.Contains(u, moment), true)
			is(t, fmt.Sprint(u, " is one or two, ascending"), len(u) == 1 || len(u) == 2 && u[0] < u[1], true)
			for _, x := range u {
				back, _ := calendar.Local(z, x)
				is(t, fmt.Sprint("local moment of ", x), back, l)
			}
		}
	}
}

// P1.6: a permutation contains each element once.
func TestLotsAreComplete(t *testing.T) {
	x := noise(9)
	for n := range 257 {
		l, _ := calendar.Draw(1+x.next(1<<24), n)
		list := slices.Sorted(slices.Values(l))
		isList(t, fmt.Sprint("elements of ", l), list, every(0, 1, n))
	}
}
