package calendar_test

import (
	"fmt"
	"math"
	"slices"
	"testing"

	"turnround/api"
	"turnround/calendar"
)

var weekends = api.Period{From: 0, To: 9, Days: 96}

// daysByDefinition lists the days of a period by its definition.
func daysByDefinition(p api.Period) []int {
	var list []int
	for day := p.From; day <= p.To; day++ {
		if inPeriod(p, day) {
			list = append(list, day)
		}
	}
	return list
}

// somePeriods has periods of all masks, and of many lengths and places.
func somePeriods() []api.Period {
	x := noise(1)
	var list []api.Period
	for mask := 1; mask <= 127; mask++ {
		for _, length := range []int{0, 1, 5, 6, 7, 13, x.next(400), 400} {
			from := x.next(api.MaxDay + 1 - length)
			list = append(list, api.Period{From: from, To: from + length, Days: mask})
		}
		list = append(list, api.Period{From: 0, To: mask % 9, Days: mask}, api.Period{From: api.MaxDay - mask, To: api.MaxDay, Days: mask})
	}
	return list
}

// P1.2
func TestCheckPeriod(t *testing.T) {
	for _, row := range badPeriods {
		is(t, fmt.Sprint("CheckPeriod of ", row.p), calendar.CheckPeriod(row.p), row.e)
	}
	for _, p := range []api.Period{weekends, {From: 0, To: 0, Days: 1}, {From: 99999, To: 99999, Days: 127}, {From: 0, To: 400, Days: 64}, {From: 99599, To: 99999, Days: 1}, {From: 5, To: 405, Days: 127}} {
		is(t, fmt.Sprint("CheckPeriod of ", p), calendar.CheckPeriod(p), api.OK)
	}
}

// P1.2: an error of a period comes before those of the other arguments.
func TestPeriodErrors(t *testing.T) {
	for _, row := range badPeriods {
		what := fmt.Sprint(" of ", row.p)
		h, e := calendar.Has(row.p, 10)
		is(t, "Has"+what, h, false)
		is(t, "Has"+what, e, row.e)
		_, e = calendar.Has(row.p, -1)
		is(t, "Has of no day"+what, e, row.e)
		l, e := calendar.DaysOf(row.p)
		isList(t, "DaysOf"+what, l, nil)
		is(t, "DaysOf"+what, e, row.e)
		n, e := calendar.Count(row.p)
		is(t, "Count"+what, n, 0)
		is(t, "Count"+what, e, row.e)
		l, e = calendar.Meet(row.p, weekends)
		isList(t, "Meet"+what, l, nil)
		is(t, "Meet"+what, e, row.e)
		l, e = calendar.Meet(weekends, row.p)
		isList(t, "Meet with"+what, l, nil)
		is(t, "Meet with"+what, e, row.e)
		s, e := calendar.Split(row.p, 10)
		is(t, "Split"+what, s, [2]api.Period{})
		is(t, "Split"+what, e, row.e)
		_, e = calendar.Split(row.p, math.MinInt)
		is(t, "Split"+what, e, row.e)
		for _, by := range []int{0, math.MaxInt, -99999} {
			p, e := calendar.Shift(row.p, by)
			is(t, "Shift"+what, p, api.Period{})
			is(t, "Shift"+what, e, row.e)
		}
	}
	large, none := api.Period{From: 0, To: 401, Days: 1}, api.Period{From: 1, To: 0, Days: 1}
	_, e := calendar.Meet(large, none)
	is(t, "Meet of two with errors", e, api.ErrLarge)
	_, e = calendar.Meet(none, large)
	is(t, "Meet of two with errors", e, api.ErrOrder)
}

// P1.2
func TestExamplePeriods(t *testing.T) {
	l, e := calendar.DaysOf(weekends)
	isList(t, "DaysOf", l, []int{0, 1, 7, 8})
	is(t, "DaysOf", e, api.OK)
	l, e = calendar.Meet(weekends, api.Period{From: 1, To: 8, Days: 64})
	isList(t, "Meet", l, []int{1, 8})
	is(t, "Meet", e, api.OK)
	s, e := calendar.Split(weekends, 7)
	is(t, "Split", s, [2]api.Period{{From: 0, To: 6, Days: 96}, {From: 7, To: 9, Days: 96}})
	is(t, "Split", e, api.OK)
	p, e := calendar.Shift(weekends, 2)
	is(t, "Shift", p, api.Period{From: 2, To: 11, Days: 3})
	is(t, "Shift", e, api.OK)
	q, e := calendar.Join([]int{0, 1, 7, 8})
	isList(t, "Join", q, []api.Period{{From: 0, To: 8, Days: 96}})
	is(t, "Join", e, api.OK)
}

// P1.2
func TestDaysOfPeriods(t *testing.T) {
	for _, p := range somePeriods() {
		want := daysByDefinition(p)
		l, e := calendar.DaysOf(p)
		isList(t, fmt.Sprint("DaysOf ", p), l, want)
		is(t, fmt.Sprint("DaysOf ", p), e, api.OK)
		n, e := calendar.Count(p)
		is(t, fmt.Sprint("Count ", p), n, len(want))
		is(t, fmt.Sprint("Count ", p), e, api.OK)
		for day := max(0, p.From-9); day <= min(api.MaxDay, p.To+9); day++ {
			h, e := calendar.Has(p, day)
			if h != slices.Contains(want, day) || e != api.OK {
				t.Fatalf("Has(%v, %d): got %v %d", p, day, h, e)
			}
		}
	}
}

// P1.2
func TestPeriodWithoutDays(t *testing.T) {
	p := api.Period{From: 0, To: 1, Days: 1}
	l, e := calendar.DaysOf(p)
	isList(t, "DaysOf", l, nil)
	is(t, "DaysOf", e, api.OK)
	n, e := calendar.Count(p)
	is(t, "Count", n, 0)
	is(t, "Count", e, api.OK)
	l, e = calendar.Meet(p, weekends)
	isList(t, "Meet", l, nil)
	is(t, "Meet", e, api.OK)
	s, e := calendar.Split(p, 1)
	is(t, "Split", s, [2]api.Period{{From: 0, To: 0, Days: 1}, {From: 1, To: 1, Days: 1}})
	is(t, "Split", e, api.OK)
}

// P1.2
func TestHasOfNoDay(t *testing.T) {
	for _, day := range outsideDays {
		h, e := calendar.Has(api.Period{From: 0, To: 400, Days: 127}, day)
		is(t, "Has", h, false)
		is(t, "Has", e, api.ErrRange)
	}
	for _, day := range []int{0, 99999} {
		h, e := calendar.Has(api.Period{From: 10, To: 20, Days: 127}, day)
		is(t, "Has of a day outside", h, false)
		is(t, "Has of a day outside", e, api.OK)
	}
}

// P1.2
func TestMeetPeriods(t *testing.T) {
	list := somePeriods()
	x := noise(2)
	for i, a := range list {
		b := list[x.next(len(list))]
		b.From = min(max(0, a.From+x.next(60)-30), api.MaxDay)
		b.To = min(b.From+x.next(401), api.MaxDay)
		var want []int
		for _, day := range daysByDefinition(a) {
			if inPeriod(b, day) {
				want = append(want, day)
			}
		}
		l, e := calendar.Meet(a, b)
		isList(t, fmt.Sprint("Meet of ", a, b), l, want)
		is(t, fmt.Sprint("Meet of ", a, b), e, api.OK)
		l, _ = calendar.Meet(b, a)
		isList(t, fmt.Sprint("Meet of ", b, a), l, want)
		l, _ = calendar.Meet(a, a)
		isList(t, fmt.Sprint("Meet of ", a, " with itself"), l, daysByDefinition(a))
		l, e = calendar.Meet(a, list[(i+1)%len(list)])
		is(t, "Meet", e, api.OK)
		for _, day := range l {
			is(t, "Meet", inPeriod(a, day) && inPeriod(list[(i+1)%len(list)], day), true)
		}
	}
}

// P1.2
func TestSplitAtEveryDay(t *testing.T) {
	for _, p := range []api.Period{weekends, {From: 3, To: 3, Days: 5}, {From: 0, To: 400, Days: 127}, {From: 99990, To: 99999, Days: 64}} {
		for day := p.From - 3; day <= p.To+3; day++ {
			s, e := calendar.Split(p, day)
			if p.From < day && day <= p.To {
				is(t, fmt.Sprint("Split of ", p, day), s, [2]api.Period{{From: p.From, To: day - 1, Days: p.Days}, {From: day, To: p.To, Days: p.Days}})
				is(t, fmt.Sprint("Split of ", p, day), e, api.OK)
			} else {
				is(t, fmt.Sprint("Split of ", p, day), s, [2]api.Period{})
				is(t, fmt.Sprint("Split of ", p, day), e, api.ErrOutside)
			}
		}
	}
	for _, day := range outsideDays {
		s, e := calendar.Split(weekends, day)
		is(t, "Split at no day", s, [2]api.Period{})
		is(t, "Split at no day", e, api.ErrOutside)
	}
}

// P1.2: the days of a period that is moved are its days, moved.
func TestShiftDays(t *testing.T) {
	x := noise(3)
	for _, p := range somePeriods() {
		for _, by := range []int{-30, -8, -7, -6, -5, -4, -3, -2, -1, 0, 1, 2, 3, 4, 5, 6, 7, 8, 30, x.next(90000), -x.next(90000)} {
			q, e := calendar.Shift(p, by)
			if p.From+by < 0 || p.To+by > api.MaxDay {
				is(t, fmt.Sprint("Shift of ", p, by), q, api.Period{})
				is(t, fmt.Sprint("Shift of ", p, by), e, api.ErrOutside)
				continue
			}
			var want []int
			for _, day := range daysByDefinition(p) {
				want = append(want, day+by)
			}
			is(t, fmt.Sprint("Shift of ", p, by), e, api.OK)
			is(t, fmt.Sprint("first day of ", p, by), q.From, p.From+by)
			is(t, fmt.Sprint("last day of ", p, by), q.To, p.To+by)
			isList(t, fmt.Sprint("days of ", p, by), daysByDefinition(q), want)
			if by%7 == 0 {
				is(t, fmt.Sprint("mask of ", p, by), q.Days, p.Days)
			}
		}
	}
}

// P1.2: each weekday alone, also where the period has no such day.
func TestShiftMask(t *testing.T) {
	for w := range 7 {
		for by := -20; by <= 20; by++ {
			q, e := calendar.Shift(api.Period{From: 100, To: 100, Days: 1 << w}, by)
			is(t, "Shift", q, api.Period{From: 100 + by, To: 100 + by, Days: 1 << ((w + by + 21) % 7)})
			is(t, "Shift", e, api.OK)
			q, e = calendar.Shift(api.Period{From: 100, To: 100, Days: 127 - 1<<w}, by)
			is(t, "Shift", q.Days, 127-1<<((w+by+21)%7))
			is(t, "Shift", e, api.OK)
		}
	}
}

// P1.2
func TestShiftErrors(t *testing.T) {
	first, last := api.Period{From: 0, To: 0, Days: 32}, api.Period{From: 99999, To: 99999, Days: 4}
	for _, row := range []struct {
		p, q api.Period
		by   int
		e    api.Errno
	}{
		{first, last, 99999, api.OK}, {last, first, -99999, api.OK}, {first, first, 0, api.OK},
		{first, api.Period{}, -1, api.ErrOutside}, {last, api.Period{}, 1, api.ErrOutside}, {first, api.Period{}, -99999, api.ErrOutside}, {last, api.Period{}, 99999, api.ErrOutside},
		{first, api.Period{}, 100000, api.ErrRange}, {first, api.Period{}, -100000, api.ErrRange}, {last, api.Period{}, math.MaxInt, api.ErrRange}, {last, api.Period{}, math.MinInt, api.ErrRange},
		{weekends, api.Period{From: 99990, To: 99999, Days: 3}, 99990, api.OK}, {weekends, api.Period{}, 99991, api.ErrOutside}, {weekends, api.Period{}, -1, api.ErrOutside},
		{api.Period{From: 1, To: 9, Days: 96}, api.Period{From: 0, To: 8, Days: 48}, -1, api.OK}, {api.Period{From: 1, To: 9, Days: 96}, api.Period{}, -2, api.ErrOutside},
	} {
		q, e := calendar.Shift(row.p, row.by)
		is(t, fmt.Sprint("Shift of ", row.p, row.by), q, row.q)
		is(t, fmt.Sprint("Shift of ", row.p, row.by), e, row.e)
	}
}

// joinByDefinition groups a list into weeks, and the weeks into runs.
func joinByDefinition(days []int) []api.Period {
	type group struct{ week, mask, first, last int }
	var weeks []group
	for _, day := range days {
		w := (day + 5) / 7
		if len(weeks) == 0 || weeks[len(weeks)-1].week != w {
			weeks = append(weeks, group{week: w, first: day})
		}
		g := &weeks[len(weeks)-1]
		g.mask |= 1 << weekdayAt(timeOf(day))
		g.last = day
	}
	var list []api.Period
	for i := 0; i < len(weeks); {
		n := 1
		for i+n < len(weeks) && n < 57 && weeks[i+n].mask == weeks[i].mask && weeks[i+n].week == weeks[i].week+n {
			n++
		}
		list = append(list, api.Period{From: weeks[i].first, To: weeks[i+n-1].last, Days: weeks[i].mask})
		i += n
	}
	return list
}

// P1.2
func TestJoinLists(t *testing.T) {
	x := noise(4)
	for range 400 {
		var list []int
		day := x.next(90000)
		pattern, odds := 1+x.next(127), 1+x.next(12)
		for len(list) < 512 && day <= api.MaxDay && x.next(600) > 0 {
			if pattern&(1<<weekdayAt(timeOf(day))) != 0 && x.next(odds*20) > 0 {
				list = append(list, day)
			}
			day++
			if x.next(200) == 0 {
				day += x.next(25)
			}
		}
		p, e := calendar.Join(list)
		isList(t, fmt.Sprint("Join of ", list), p, joinByDefinition(list))
		is(t, "Join", e, api.OK)
	}
}

// every returns n days with the same distance.
func every(first, step, n int) []int {
	list := make([]int, n)
	for i := range list {
		list[i] = first + step*i
	}
	return list
}

// P1.2
func TestJoinForms(t *testing.T) {
	for _, row := range []struct {
		what string
		days []int
		want []api.Period
	}{
		{"no days", nil, nil},
		{"empty list", []int{}, nil},
		{"one day", []int{0}, []api.Period{{From: 0, To: 0, Days: 32}}},
		{"last day", []int{99999}, []api.Period{{From: 99999, To: 99999, Days: 4}}},
		{"Sunday and Monday", []int{1, 2}, []api.Period{{From: 1, To: 1, Days: 64}, {From: 2, To: 2, Days: 1}}},
		{"Monday to Sunday", every(2, 1, 7), []api.Period{{From: 2, To: 8, Days: 127}}},
		{"a gap of a week", []int{1, 8, 22}, []api.Period{{From: 1, To: 8, Days: 64}, {From: 22, To: 22, Days: 64}}},
		{"another mask between", []int{2, 9, 10, 16}, []api.Period{{From: 2, To: 2, Days: 1}, {From: 9, To: 10, Days: 3}, {From: 16, To: 16, Days: 1}}},
		{"a part of the mask", []int{2, 4, 9, 16, 18}, []api.Period{{From: 2, To: 4, Days: 5}, {From: 9, To: 9, Days: 1}, {From: 16, To: 18, Days: 5}}},
		{"as many days in another mask", []int{2, 4, 9, 12}, []api.Period{{From: 2, To: 4, Days: 5}, {From: 9, To: 12, Days: 9}}},
		{"56 weeks", every(1, 7, 56), []api.Period{{From: 1, To: 386, Days: 64}}},
		{"57 weeks", every(1, 7, 57), []api.Period{{From: 1, To: 393, Days: 64}}},
		{"58 weeks", every(1, 7, 58), []api.Period{{From: 1, To: 393, Days: 64}, {From: 400, To: 400, Days: 64}}},
		{"114 weeks", every(1, 7, 114), []api.Period{{From: 1, To: 393, Days: 64}, {From: 400, To: 792, Days: 64}}},
		{"115 weeks", every(1, 7, 115), []api.Period{{From: 1, To: 393, Days: 64}, {From: 400, To: 792, Days: 64}, {From: 799, To: 799, Days: 64}}},
		{"57 whole weeks", every(2, 1, 399), []api.Period{{From: 2, To: 400, Days: 127}}},
		{"58 whole weeks", every(2, 1, 406), []api.Period{{From: 2, To: 400, Days: 127}, {From: 401, To: 407, Days: 127}}},
		{"512 days", every(2, 1, 512), []api.Period{{From: 2, To: 400, Days: 127}, {From: 401, To: 512, Days: 127}, {From: 513, To: 513, Days: 1}}},
		{"a part of the first week", every(5, 1, 20), []api.Period{{From: 5, To: 8, Days: 120}, {From: 9, To: 22, Days: 127}, {From: 23, To: 24, Days: 3}}},
	} {
		p, e := calendar.Join(row.days)
		isList(t, "Join of "+row.what, p, row.want)
		is(t, "Join of "+row.what, e, api.OK)
	}
}

// P1.2
func TestJoinErrors(t *testing.T) {
	for _, row := range []struct {
		what string
		days []int
		e    api.Errno
	}{
		{"513 days", every(0, 1, 513), api.ErrMany},
		{"513 days of which none is a day", every(-600, 1, 513), api.ErrMany},
		{"513 equal days", make([]int, 513), api.ErrMany},
		{"512 equal days", make([]int, 512), api.ErrOrder},
		{"a negative day", []int{-1}, api.ErrRange},
		{"a day after the last one", []int{99999, 100000}, api.ErrRange},
		{"the smallest number", []int{math.MinInt, 0}, api.ErrRange},
		{"the greatest number", []int{0, math.MaxInt}, api.ErrRange},
		{"a day twice", []int{3, 3}, api.ErrOrder},
		{"a descending list", []int{3, 4, 2}, api.ErrOrder},
		{"a negative day after another one", []int{3, -1}, api.ErrRange},
		{"no day after a wrong order", []int{3, 3, -1}, api.ErrOrder},
		{"no day before a wrong order", []int{3, 100000, 5, 5}, api.ErrRange},
		{"a wrong order at the end", append(every(0, 3, 511), 1530), api.ErrOrder},
	} {
		p, e := calendar.Join(row.days)
		isList(t, "Join of "+row.what, p, nil)
		is(t, "Join of "+row.what, e, row.e)
	}
}
