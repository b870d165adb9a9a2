package use

import (
	"turnround/api"
	"turnround/calendar"
	"turnround/check"
)

// Historic returns the periods of a series in the equivalent season.
func Historic(p api.Period, s calendar.Season) ([]api.Period, api.Errno) {
	if e := check.First(calendar.CheckPeriod(p), calendar.CheckSeason(s)); e != api.OK {
		return nil, e
	}
	return historic(p, s)
}

// Rights returns the series that keep their rights, with their periods in the equivalent season.
func Rights(r Rule, requests []api.Request, l []Note, s calendar.Season) ([]Right, api.Errno) {
	e := check.First(CheckRule(r), checkRequests(requests), CheckNotes(l), calendar.CheckSeason(s))
	if e != api.OK {
		return nil, e
	}
	var rights []Right
	for _, q := range requests {
		if !r.keeps(ledger{r, slotsOf(q), l}.ratio()) {
			continue
		}
		periods, e := historic(q.Period, s)
		if e != api.OK {
			return nil, e
		}
		rights = append(rights, Right{Name: q.Name, Periods: periods})
	}
	return rights, api.OK
}

func checkRequests(l []api.Request) api.Errno {
	once := check.Once()
	return check.List(l, api.MaxRequests, func(q api.Request) api.Errno {
		return check.First(check.Name(q.Name), once(q.Name), checkTimes(q))
	})
}

// historic is Historic for a period and a season without an error of their own.
func historic(p api.Period, s calendar.Season) ([]api.Period, api.Errno) {
	days, _ := calendar.DaysOf(p)
	if e := checkSeason(days, s); e != api.OK {
		return nil, e
	}
	var equivalents []int
	for _, day := range days {
		if equivalent, e := calendar.Equivalent(day, s); e == api.OK {
			equivalents = append(equivalents, equivalent)
		}
	}
	return calendar.Join(equivalents)
}

// checkSeason returns ErrOutside if ascending days are not all in one season, ErrKind if this season does not have the kind of another one, otherwise OK.
func checkSeason(days []int, s calendar.Season) api.Errno {
	if len(days) == 0 {
		return api.OK
	}
	first, e := calendar.SeasonOf(days[0])
	last, later := calendar.SeasonOf(days[len(days)-1])
	return check.First(e, later, check.Unless(first == last, api.ErrOutside), check.Unless(first.Kind == s.Kind, api.ErrKind))
}
