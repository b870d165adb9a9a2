package capacity

import (
	"iter"
	"slices"

	"turnround/api"
	"turnround/calendar"
	"turnround/check"
)

// noMinute stands for a minute that does not exist.
const noMinute = -1

// refusals has the minutes of the day at which a request does not fit.
type refusals [minutesOfDay]bool

func (f *refusals) allows(minute int) bool { return !f[minute] }

// Room returns how many further movements like one fit.
func Room(limits []Limit, movements []api.Movement, m api.Movement) (int, api.Errno) {
	if e := checkTrial(limits, movements, m); e != api.OK {
		return 0, e
	}
	room := api.MaxNumber
search:
	for _, l := range limits {
		for w := range windowsAt(l, movements, m) {
			if isFull(l, w) {
				room = 0
				break search
			}
			room = min(room, l.Most-w.Count)
		}
	}
	return room, api.OK
}

// Full returns the windows that refuse a movement.
func Full(limits []Limit, movements []api.Movement, m api.Movement) ([]Window, api.Errno) {
	if e := checkTrial(limits, movements, m); e != api.OK {
		return nil, e
	}
	var full []Window
	for i, l := range limits {
		for w := range windowsAt(l, movements, m) {
			if isFull(l, w) {
				w.Limit = i
				full = append(full, w)
			}
		}
	}
	return full, api.OK
}

// Fits reports whether a request fits.
func Fits(limits []Limit, movements []api.Movement, r api.Request) (bool, api.Errno) {
	free, e := Free(limits, movements, r, r.Minute, r.Minute)
	return len(free) > 0, e
}

// Free returns the minutes at which a request would fit.
func Free(limits []Limit, movements []api.Movement, r api.Request, least, most int) ([]int, api.Errno) {
	e := check.First(
		CheckLimits(limits),
		CheckMovements(movements),
		checkRequest(r),
		check.Minute(least),
		check.Minute(most),
		check.Unless(least <= most, api.ErrOrder),
	)
	if e != api.OK {
		return nil, e
	}
	minutes := make([]int, most-least+1)
	for i := range minutes {
		minutes[i] = least + i
	}
	refused := refusalsOf(limits, movements, r, least, most)
	return slices.Collect(filter(minutes, refused.allows)), api.OK
}

// Nearest returns the nearest free minutes before and after the minute of a request.
func Nearest(limits []Limit, movements []api.Movement, r api.Request, least, most int) ([2]int, api.Errno) {
	free, e := Free(limits, movements, r, least, most)
	if e != api.OK {
		return [2]int{}, e
	}
	nearest := [2]int{noMinute, noMinute}
	for _, minute := range free {
		if minute <= r.Minute {
			nearest[0] = minute
		}
		if minute >= r.Minute && nearest[1] == noMinute {
			nearest[1] = minute
		}
	}
	return nearest, api.OK
}

func checkTrial(limits []Limit, movements []api.Movement, m api.Movement) api.Errno {
	return check.First(CheckLimits(limits), CheckMovements(movements), checkMovement(m))
}

func isFull(l Limit, w Window) bool { return w.Count >= l.Most }

// windowsAt visits the windows of a limit that are windows of a movement.
func windowsAt(l Limit, movements []api.Movement, m api.Movement) iter.Seq[Window] {
	if !countsFor(l)(m) {
		return func(func(Window) bool) {}
	}
	return windowsOf(l, movements, m.Moment-l.Length+1, m.Moment)
}

// refusalsOf returns which ones of the minutes from the least to the most one are refused to a request.
func refusalsOf(limits []Limit, movements []api.Movement, r api.Request, least, most int) *refusals {
	refused := new(refusals)
	days, _ := calendar.DaysOf(r.Period)
	one := movementOn(r, r.Period.From)
	for l := range filter(limits, func(l Limit) bool { return countsFor(l)(one) }) {
		g := gaugeOf(l, movements, firstMoment(r.Period.From)+least-l.Length+1, firstMoment(r.Period.To)+most)
		for _, day := range days {
			refused.add(g, day, least, most)
		}
	}
	return refused
}

// add refuses the minutes of a day from the least to the most one that are in full windows.
func (f *refusals) add(g gauge, day, least, most int) {
	midnight, length := firstMoment(day), g.limit.Length
	next := least
	for w := range g.windows(midnight+least-length+1, midnight+most) {
		if !isFull(g.limit, w) {
			continue
		}
		begin := w.Begin - midnight
		for minute := max(next, begin); minute < min(begin+length, most+1); minute++ {
			f[minute] = true
		}
		// A later window does not end earlier, so no minute has to be refused twice.
		next = begin + length
	}
}
