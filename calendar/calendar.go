// Package calendar counts days, converts dates and clocks, handles periods and scheduling seasons, and draws lots: see shared/doc/01-calendar.md.
package calendar

import "iter"

// Limits of years, lists, weeks and clocks.
const (
	MinYear    = 2000
	MaxYear    = 2272
	MaxDays    = 512
	MaxWeeks   = 57
	MinOffset  = -720
	MaxOffset  = 840
	MaxStep    = 180
	MaxChanges = 64
)

// Season is a scheduling season: its year, and its kind, "S" or "W".
type Season struct {
	Year int
	Kind string
}

// Change is a clock change: from a universal moment on there is another offset.
type Change struct {
	Moment int
	Offset int
}

// Zone is an offset of local time, and its changes.
type Zone struct {
	Offset  int
	Changes []Change
}

// collect returns the elements of a sequence that are to be kept, in their order.
func collect[T any](all iter.Seq[T], keep func(T) bool) []T {
	var kept []T
	for x := range all {
		if keep(x) {
			kept = append(kept, x)
		}
	}
	return kept
}
