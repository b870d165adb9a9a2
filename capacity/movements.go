package capacity

import (
	"cmp"
	"slices"

	"turnround/api"
	"turnround/calendar"
	"turnround/check"
)

// CheckMovements returns the first error of movements, or OK.
func CheckMovements(l []api.Movement) api.Errno {
	if len(l) > MaxMovements {
		return api.ErrMany
	}
	for i, m := range l {
		if e := check.First(checkMovement(m), check.Unless(i == 0 || l[i-1].Moment <= m.Moment, api.ErrOrder)); e != api.OK {
			return e
		}
	}
	return api.OK
}

// Movements returns the movements of a request.
func Movements(r api.Request) ([]api.Movement, api.Errno) {
	if e := checkRequest(r); e != api.OK {
		return nil, e
	}
	days, _ := calendar.DaysOf(r.Period)
	movements := make([]api.Movement, len(days))
	for i, day := range days {
		movements[i] = movementOn(r, day)
	}
	return movements, api.OK
}

// Merge returns the movements of both lists in order.
func Merge(a, b []api.Movement) ([]api.Movement, api.Errno) {
	if e := check.First(CheckMovements(a), CheckMovements(b), check.Unless(len(a)+len(b) <= MaxMovements, api.ErrMany)); e != api.OK {
		return nil, e
	}
	merged := make([]api.Movement, len(a)+len(b))
	copy(merged, a)
	copy(merged[len(a):], b)
	// The lists are in the order of moments alone, so their elements may have to be exchanged, too.
	slices.SortStableFunc(merged, check.CompareMovements)
	return merged, api.OK
}

// Dropped returns the movements without those with a name.
func Dropped(movements []api.Movement, name string) ([]api.Movement, api.Errno) {
	if e := check.First(CheckMovements(movements), check.Name(name)); e != api.OK {
		return nil, e
	}
	return slices.Collect(filter(movements, func(m api.Movement) bool { return m.Name != name })), api.OK
}

func checkMovement(m api.Movement) api.Errno {
	return check.First(
		check.Moment(m.Moment),
		check.Kind(m.Kind),
		check.OptionalName(m.Terminal),
		checkFacts(m.Seats, m.Size, m.Noise),
		check.Name(m.Name),
	)
}

func checkRequest(r api.Request) api.Errno {
	return check.First(
		check.Name(r.Name),
		check.Kind(r.Kind),
		check.OptionalName(r.Terminal),
		calendar.CheckPeriod(r.Period),
		check.Minute(r.Minute),
		checkFacts(r.Seats, r.Size, r.Noise),
	)
}

func checkFacts(seats, size, noise int) api.Errno {
	return check.First(
		check.Range(seats, 0, api.MaxSeats),
		check.Range(size, 0, api.MaxSize),
		check.Range(noise, 0, api.MaxNoise),
	)
}

// movementOn returns the movement of a request on a day.
func movementOn(r api.Request, day int) api.Movement {
	return api.Movement{
		Moment:   day*minutesOfDay + r.Minute,
		Kind:     r.Kind,
		Terminal: r.Terminal,
		Seats:    r.Seats,
		Size:     r.Size,
		Noise:    r.Noise,
		Name:     r.Name,
	}
}

// between returns the part of movements from a moment on, and before another one.
func between(movements []api.Movement, from, to int) []api.Movement {
	return movements[indexOf(movements, from):indexOf(movements, to)]
}

// indexOf returns the index of the first movement that is not before a moment.
func indexOf(movements []api.Movement, moment int) int {
	at, _ := slices.BinarySearchFunc(movements, moment, func(m api.Movement, moment int) int {
		return cmp.Compare(m.Moment, moment)
	})
	return at
}
