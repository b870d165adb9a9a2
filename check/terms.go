package check

import (
	"cmp"

	"turnround/api"
)

// BothKinds is the kind of limits for arrivals and departures.
const BothKinds = "T"

const minutesOfDay = 1440

// Name returns ErrName if a string is not a name, otherwise OK.
func Name(s string) api.Errno { return Unless(IsName(s), api.ErrName) }

// OptionalName returns ErrName if a string is neither empty nor a name, otherwise OK.
func OptionalName(s string) api.Errno { return Unless(s == "" || IsName(s), api.ErrName) }

// Kind returns ErrKind if a string is not a kind of movements, otherwise OK.
func Kind(s string) api.Errno { return Unless(IsKind(s), api.ErrKind) }

// Day returns ErrRange if a number is not a day, otherwise OK.
func Day(day int) api.Errno { return Range(day, 0, api.MaxDay) }

// Days returns ErrRange if the first or the last one of some days is not a day, ErrOrder if the last one is before the first one, otherwise OK.
func Days(from, to int) api.Errno {
	return First(Day(from), Day(to), Unless(from <= to, api.ErrOrder))
}

// Minute returns ErrRange if a number is not a minute of a day, otherwise OK.
func Minute(minute int) api.Errno { return Range(minute, 0, minutesOfDay-1) }

// Moment returns ErrRange if a number is not a moment, otherwise OK.
func Moment(moment int) api.Errno { return Range(moment, 0, api.MaxMoment) }

// IsName reports whether a string is a name.
func IsName(s string) bool {
	if len(s) == 0 || len(s) > api.MaxName {
		return false
	}
	for i, r := range s {
		if !isLetter(r) && (i == 0 || !IsDigit(r) && r != '_') {
			return false
		}
	}
	return true
}

// IsKind reports whether a string is a kind of movements.
func IsKind(s string) bool { return s == api.Arrival || s == api.Departure }

// IsDigit reports whether a rune is one of the digits 0 to 9.
func IsDigit(r rune) bool { return '0' <= r && r <= '9' }

// Counts reports whether a movement counts for a limit of a kind and a terminal, which is empty for all terminals.
func Counts(kind, terminal string, m api.Movement) bool {
	return (kind == BothKinds || kind == m.Kind) && (terminal == "" || terminal == m.Terminal)
}

// CompareMovements compares movements by moments, then by kinds, then by names.
func CompareMovements(a, b api.Movement) int {
	return cmp.Or(
		cmp.Compare(a.Moment, b.Moment),
		cmp.Compare(a.Kind, b.Kind),
		cmp.Compare(a.Name, b.Name),
	)
}

func isLetter(r rune) bool { return 'A' <= r && r <= 'Z' || 'a' <= r && r <= 'z' }
