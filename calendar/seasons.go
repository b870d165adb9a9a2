package calendar

import (
	"turnround/api"
	"turnround/check"
)

const (
	summer = "S"
	winter = "W"
)

var (
	firstSeason = Season{Year: MinYear, Kind: summer}
	lastSeason  = Season{Year: MaxYear, Kind: winter}
)

// CheckSeason returns the first error of a season, or OK.
func CheckSeason(s Season) api.Errno {
	return check.First(
		check.Range(s.Year, MinYear, MaxYear),
		check.Unless(s.Kind == summer || s.Kind == winter, api.ErrKind),
	)
}

// Span returns the period of a season.
func Span(s Season) (api.Period, api.Errno) {
	if e := CheckSeason(s); e != api.OK {
		return api.Period{}, e
	}
	return api.Period{From: firstDay(s), To: lastDay(s), Days: everyDay}, api.OK
}

// SeasonOf returns the season of a day.
func SeasonOf(day int) (Season, api.Errno) {
	e := check.First(check.Day(day), check.Unless(firstDay(firstSeason) <= day && day <= lastDay(lastSeason), api.ErrOutside))
	if e != api.OK {
		return Season{}, e
	}
	year := yearOf(day)
	switch {
	case day < lastSunday(year, march):
		return Season{Year: year - 1, Kind: winter}, api.OK
	case day < lastSunday(year, october):
		return Season{Year: year, Kind: summer}, api.OK
	}
	return Season{Year: year, Kind: winter}, api.OK
}

// Next returns the next season.
func Next(s Season) (Season, api.Errno) {
	if e := check.First(CheckSeason(s), check.Unless(s != lastSeason, api.ErrNone)); e != api.OK {
		return Season{}, e
	}
	return following(s), api.OK
}

// Previous returns the season before.
func Previous(s Season) (Season, api.Errno) {
	if e := check.First(CheckSeason(s), check.Unless(s != firstSeason, api.ErrNone)); e != api.OK {
		return Season{}, e
	}
	if s.Kind == winter {
		return Season{Year: s.Year, Kind: summer}, api.OK
	}
	return Season{Year: s.Year - 1, Kind: winter}, api.OK
}

// Equivalent returns the equivalent day in a season.
func Equivalent(day int, s Season) (int, api.Errno) {
	own, e := SeasonOf(day)
	if e = check.First(e, CheckSeason(s), check.Unless(own.Kind == s.Kind, api.ErrKind)); e != api.OK {
		return 0, e
	}
	place := day - firstDay(own)
	equivalent := firstDay(s) + place
	if equivalent > lastDay(s) {
		return 0, api.ErrNone
	}
	return equivalent, api.OK
}

// following is Next without its limits, since the last season, too, ends where another one would begin.
func following(s Season) Season {
	if s.Kind == summer {
		return Season{Year: s.Year, Kind: winter}
	}
	return Season{Year: s.Year + 1, Kind: summer}
}

func firstDay(s Season) int {
	if s.Kind == summer {
		return lastSunday(s.Year, march)
	}
	return lastSunday(s.Year, october)
}

func lastDay(s Season) int { return firstDay(following(s)) - 1 }
