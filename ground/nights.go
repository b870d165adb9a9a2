package ground

import (
	"cmp"
	"iter"
	"slices"

	"turnround/api"
	"turnround/calendar"
	"turnround/check"
)

const minutesOfDay = 1440

// NightOf returns the day of the night in which a moment is.
func NightOf(n Night, moment int) (int, api.Errno) {
	if e := check.First(checkNight(n), check.Moment(moment)); e != api.OK {
		return 0, e
	}
	day, isNight := nightOf(n, moment)
	if !isNight {
		return 0, api.ErrNone
	}
	return day, api.OK
}

// CheckQuota returns the first error of a quota, or OK.
func CheckQuota(q Quota) api.Errno {
	return check.First(
		checkNight(q.Night),
		calendar.CheckSeason(q.Season),
		check.Range(q.Count, 0, MaxCount),
		check.Range(q.Points, 0, MaxCount),
	)
}

// Used returns what movements use of a quota.
func Used(q Quota, movements []api.Movement) (Sum, api.Errno) {
	if e := checkUse(q, movements); e != api.OK {
		return Sum{}, e
	}
	var used Sum
	for m := range atNight(q, movements) {
		used = used.with(m)
	}
	return used, api.OK
}

// Left returns what is left of a quota.
func Left(q Quota, movements []api.Movement) (Sum, api.Errno) {
	used, e := Used(q, movements)
	if e != api.OK {
		return Sum{}, e
	}
	return Sum{Count: q.Count - used.Count, Points: q.Points - used.Points}, api.OK
}

// Table returns what the movements of each name use of a quota.
func Table(q Quota, movements []api.Movement) ([]Row, api.Errno) {
	if e := checkUse(q, movements); e != api.OK {
		return nil, e
	}
	sums := map[string]Sum{}
	for m := range atNight(q, movements) {
		sums[m.Name] = sums[m.Name].with(m)
	}
	var rows []Row
	for name, sum := range sums {
		rows = append(rows, Row{Name: name, Sum: sum})
	}
	slices.SortFunc(rows, Row.compareName)
	return rows, api.OK
}

func checkNight(n Night) api.Errno {
	return check.First(check.Minute(n.From), check.Minute(n.To), check.Unless(n.From != n.To, api.ErrOrder))
}

func checkUse(q Quota, movements []api.Movement) api.Errno {
	return check.First(CheckQuota(q), CheckMovements(movements))
}

// nightOf returns the day of the night in which a moment is, and whether there is one.
func nightOf(n Night, moment int) (int, bool) {
	day, minute := moment/minutesOfDay, moment%minutesOfDay
	switch {
	case n.From < n.To:
		return day, n.From <= minute && minute < n.To
	case n.From <= minute:
		return day, true
	}
	return day - 1, minute < n.To && day > 0
}

// atNight visits the movements that count for a quota.
func atNight(q Quota, movements []api.Movement) iter.Seq[api.Movement] {
	span, _ := calendar.Span(q.Season)
	return func(yield func(api.Movement) bool) {
		for _, m := range movements {
			day, isNight := nightOf(q.Night, m.Moment)
			if isNight && span.From <= day && day <= span.To && !yield(m) {
				return
			}
		}
	}
}

// with returns a sum with a further movement.
func (s Sum) with(m api.Movement) Sum { return Sum{Count: s.Count + 1, Points: s.Points + m.Noise} }

func (r Row) compareName(other Row) int { return cmp.Compare(r.Name, other.Name) }
