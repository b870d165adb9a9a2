package calendar_test

import (
	"fmt"
	"testing"
	"time"

	"turnround/api"
	"turnround/calendar"
)

// seasonSpan is a season with its first and its last day.
type seasonSpan struct {
	s           calendar.Season
	first, last int
}

// allSeasons lists the seasons in their order, by the Sundays of the standard library's calendar.
func allSeasons() []seasonSpan {
	var list []seasonSpan
	for year := 2000; year <= 2272; year++ {
		spring, autumn := lastSundayOf(year, time.March), lastSundayOf(year, time.October)
		list = append(list,
			seasonSpan{calendar.Season{Year: year, Kind: "S"}, spring, autumn - 1},
			seasonSpan{calendar.Season{Year: year, Kind: "W"}, autumn, lastSundayOf(year+1, time.March) - 1},
		)
	}
	return list
}

// P1.3
func TestExampleSeasons(t *testing.T) {
	p, e := calendar.Span(calendar.Season{Year: 2026, Kind: "S"})
	is(t, "Span of S 2026", p, api.Period{From: 9584, To: 9793, Days: 127})
	is(t, "Span of S 2026", e, api.OK)
	is(t, "weeks of S 2026", (p.To-p.From+1)/7, 30)
	p, e = calendar.Span(calendar.Season{Year: 2026, Kind: "W"})
	is(t, "Span of W 2026", p, api.Period{From: 9794, To: 9947, Days: 127})
	is(t, "Span of W 2026", e, api.OK)
	p, _ = calendar.Span(calendar.Season{Year: 2025, Kind: "S"})
	is(t, "first day of S 2025", p.From, 9220)
	d, e := calendar.Equivalent(9594, calendar.Season{Year: 2025, Kind: "S"})
	is(t, "Equivalent", d, 9230)
	is(t, "Equivalent", e, api.OK)
}

// P1.3
func TestEverySeason(t *testing.T) {
	all := allSeasons()
	for i, x := range all {
		what := fmt.Sprint(" of ", x.s)
		is(t, "CheckSeason"+what, calendar.CheckSeason(x.s), api.OK)
		p, e := calendar.Span(x.s)
		is(t, "Span"+what, p, api.Period{From: x.first, To: x.last, Days: 127})
		is(t, "Span"+what, e, api.OK)
		next, e := calendar.Next(x.s)
		if i+1 < len(all) {
			is(t, "Next"+what, next, all[i+1].s)
			is(t, "Next"+what, e, api.OK)
		} else {
			is(t, "Next"+what, next, calendar.Season{})
			is(t, "Next"+what, e, api.ErrNone)
		}
		before, e := calendar.Previous(x.s)
		if i > 0 {
			is(t, "Previous"+what, before, all[i-1].s)
			is(t, "Previous"+what, e, api.OK)
		} else {
			is(t, "Previous"+what, before, calendar.Season{})
			is(t, "Previous"+what, e, api.ErrNone)
		}
	}
}

// P1.3
func TestSeasonOfEveryDay(t *testing.T) {
	all := allSeasons()
	seasons := map[int]calendar.Season{}
	for _, x := range all {
		for day := x.first; day <= x.last; day++ {
			seasons[day] = x.s
		}
	}
	for day := range api.MaxDay + 1 {
		want, ok := seasons[day]
		wantE := api.OK
		if !ok {
			wantE = api.ErrOutside
		}
		s, e := calendar.SeasonOf(day)
		if s != want || e != wantE {
			t.Fatalf("SeasonOf(%d): got %v %d, want %v %d", day, s, e, want, wantE)
		}
	}
	for _, day := range []int{0, all[0].first - 1, all[len(all)-1].last + 1, 99999} {
		s, e := calendar.SeasonOf(day)
		is(t, fmt.Sprint("SeasonOf ", day), s, calendar.Season{})
		is(t, fmt.Sprint("SeasonOf ", day), e, api.ErrOutside)
	}
	for _, day := range outsideDays {
		s, e := calendar.SeasonOf(day)
		is(t, "SeasonOf of no day", s, calendar.Season{})
		is(t, "SeasonOf of no day", e, api.ErrRange)
	}
}

// P1.3
func TestSeasonErrors(t *testing.T) {
	for _, row := range badSeasons {
		what := fmt.Sprint(" of ", row.s)
		is(t, "CheckSeason"+what, calendar.CheckSeason(row.s), row.e)
		p, e := calendar.Span(row.s)
		is(t, "Span"+what, p, api.Period{})
		is(t, "Span"+what, e, row.e)
		s, e := calendar.Next(row.s)
		is(t, "Next"+what, s, calendar.Season{})
		is(t, "Next"+what, e, row.e)
		s, e = calendar.Previous(row.s)
		is(t, "Previous"+what, s, calendar.Season{})
		is(t, "Previous"+what, e, row.e)
		d, e := calendar.Equivalent(9594, row.s)
		is(t, "Equivalent"+what, d, 0)
		is(t, "Equivalent"+what, e, row.e)
	}
}

// P1.3: every day of some seasons in every season.
func TestEquivalentDays(t *testing.T) {
	all := allSeasons()
	for i := 0; i < len(all); i += 9 {
		for _, other := range all {
			for _, day := range []int{all[i].first, all[i].first + 1, all[i].first + 100, all[i].last - 7, all[i].last - 6, all[i].last} {
				want, wantE := other.first+day-all[i].first, api.OK
				if all[i].s.Kind != other.s.Kind {
					want, wantE = 0, api.ErrKind
				} else if want > other.last {
					want, wantE = 0, api.ErrNone
				}
				d, e := calendar.Equivalent(day, other.s)
				is(t, fmt.Sprint("Equivalent of ", day, other.s), d, want)
				is(t, fmt.Sprint("Equivalent of ", day, other.s), e, wantE)
			}
		}
	}
}

// P1.3: S of 2027 has 31 weeks, S of 2026 has 30.
func TestEquivalentInShortSeason(t *testing.T) {
	long, _ := calendar.Span(calendar.Season{Year: 2027, Kind: "S"})
	short, _ := calendar.Span(calendar.Season{Year: 2026, Kind: "S"})
	is(t, "length of S 2027", long.To-long.From+1, 217)
	is(t, "length of S 2026", short.To-short.From+1, 210)
	for place := range 217 {
		d, e := calendar.Equivalent(long.From+place, calendar.Season{Year: 2026, Kind: "S"})
		if place < 210 {
			is(t, "Equivalent", d, short.From+place)
			is(t, "Equivalent", e, api.OK)
		} else {
			is(t, "Equivalent", d, 0)
			is(t, "Equivalent", e, api.ErrNone)
		}
	}
	d, e := calendar.Equivalent(long.To, calendar.Season{Year: 2027, Kind: "S"})
	is(t, "Equivalent in its own season", d, long.To)
	is(t, "Equivalent in its own season", e, api.OK)
}

// P1.3: the error of the day comes first, then that of the season, then those of both.
func TestEquivalentErrors(t *testing.T) {
	s, none, noKind := calendar.Season{Year: 2026, Kind: "S"}, calendar.Season{Year: 1999, Kind: "X"}, calendar.Season{Year: 2026, Kind: "X"}
	for _, row := range []struct {
		day int
		s   calendar.Season
		e   api.Errno
	}{
		{-1, s, api.ErrRange}, {100000, s, api.ErrRange}, {-1, noKind, api.ErrRange},
		{0, s, api.ErrOutside}, {0, none, api.ErrOutside}, {0, noKind, api.ErrOutside}, {99999, none, api.ErrOutside},
		{9594, none, api.ErrRange}, {9594, noKind, api.ErrKind},
		{9594, calendar.Season{Year: 2026, Kind: "W"}, api.ErrKind}, {9794, s, api.ErrKind}, {9793, calendar.Season{Year: 2026, Kind: "W"}, api.ErrKind},
		{9593, s, api.OK},
	} {
		d, e := calendar.Equivalent(row.day, row.s)
		is(t, fmt.Sprint("Equivalent of ", row.day, row.s), e, row.e)
		isZero(t, "Equivalent", d, e)
	}
}
