package tally

import (
	"cmp"
	"slices"

	"turnround/api"
	"turnround/calendar"
	"turnround/capacity"
	"turnround/check"
)

const minutesOfDay = 1440

// Series is movements of one kind and terminal: one on each of some days, which ascend, at a minute, which may be beyond the day.
type Series struct {
	Kind     string
	Terminal string
	Days     []int
	Minute   int
}

// SeriesOf returns the movements of a request, which has no error.
func SeriesOf(q api.Request) Series {
	days, _ := calendar.DaysOf(q.Period)
	return Series{Kind: q.Kind, Terminal: q.Terminal, Days: days, Minute: q.Minute}
}

// At returns the movements at another minute.
func (s Series) At(minute int) Series {
	s.Minute = minute
	return s
}

// CountsIn reports whether a movement counts in the window of a limit that begins at a moment.
func (s Series) CountsIn(l capacity.Limit, begin int) bool {
	return s.countsFor(l) && s.isBetween(begin, begin+l.Length)
}

func (s Series) moment(day int) int { return day*minutesOfDay + s.Minute }

// isBetween reports whether a movement is at a moment from one on, and before another one.
func (s Series) isBetween(from, to int) bool {
	at, _ := slices.BinarySearchFunc(s.Days, from, func(day, from int) int { return cmp.Compare(s.moment(day), from) })
	return at < len(s.Days) && s.moment(s.Days[at]) < to
}

func (s Series) countsFor(l capacity.Limit) bool {
	return check.Counts(l.Kind, l.Terminal, api.Movement{Kind: s.Kind, Terminal: s.Terminal})
}

// momentsFor returns the moments of all movements that count for a limit, ascending.
func momentsFor(l capacity.Limit, all []Series) []int {
	var moments []int
	for _, s := range all {
		if s.countsFor(l) {
			moments = merge(moments, s)
		}
	}
	return moments
}

// merge returns ascending moments with those of a series.
func merge(moments []int, s Series) []int {
	merged := make([]int, 0, len(moments)+len(s.Days))
	next := 0
	for _, day := range s.Days {
		moment := s.moment(day)
		for next < len(moments) && moments[next] <= moment {
			merged = append(merged, moments[next])
			next++
		}
		merged = append(merged, moment)
	}
	return append(merged, moments[next:]...)
}
