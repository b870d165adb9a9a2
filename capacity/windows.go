package capacity

import (
	"iter"
	"slices"

	"turnround/api"
	"turnround/calendar"
	"turnround/check"
)

// gauge counts the movements in windows of a limit: before has, for each day with movements that count for it, how many of them are before each minute of the day, and before its end.
type gauge struct {
	limit  Limit
	before map[int]*[minutesOfDay + 1]int
}

// Begins returns the moments at which the windows of a limit begin on a day.
func Begins(l Limit, day int) ([]int, api.Errno) {
	if e := check.First(checkLimit(l), checkDayOf(l, day)); e != api.OK {
		return nil, e
	}
	return slices.Collect(begins(l, firstMoment(day), lastMoment(day))), api.OK
}

// Count returns the count of a window.
func Count(l Limit, movements []api.Movement, begin int) (int, api.Errno) {
	if e := check.First(checkLimit(l), CheckMovements(movements), check.Moment(begin)); e != api.OK {
		return 0, e
	}
	w, e := first(windowsOf(l, movements, begin, begin))
	return w.Count, e
}

// Table returns the counts of the windows that begin on a day.
func Table(l Limit, movements []api.Movement, day int) ([]int, api.Errno) {
	if e := check.First(checkLimit(l), CheckMovements(movements), checkDayOf(l, day)); e != api.OK {
		return nil, e
	}
	var counts []int
	for w := range windowsOf(l, movements, firstMoment(day), lastMoment(day)) {
		counts = append(counts, w.Count)
	}
	return counts, api.OK
}

// Peak returns the window of a limit with the greatest count.
func Peak(l Limit, movements []api.Movement) (Window, api.Errno) {
	if e := check.First(checkLimit(l), CheckMovements(movements)); e != api.OK {
		return Window{}, e
	}
	none := Window{Begin: -1, Count: -1}
	peak := none
	for w := range allWindows(l, movements) {
		if w.Count > peak.Count {
			peak = w
		}
	}
	if peak == none {
		return Window{}, api.ErrNone
	}
	return peak, api.OK
}

// First returns the first exceeded window.
func First(limits []Limit, movements []api.Movement) (Window, api.Errno) {
	if e := check.First(CheckLimits(limits), CheckMovements(movements)); e != api.OK {
		return Window{}, e
	}
	return first(exceeded(limits, movements))
}

// Excess returns all exceeded windows.
func Excess(limits []Limit, movements []api.Movement) ([]Window, api.Errno) {
	if e := check.First(CheckLimits(limits), CheckMovements(movements)); e != api.OK {
		return nil, e
	}
	var all []Window
	for w := range exceeded(limits, movements) {
		if len(all) == MaxExcess {
			return nil, api.ErrMany
		}
		all = append(all, w)
	}
	return all, api.OK
}

// checkDayOf returns the error of a day on which windows of a limit are to begin.
func checkDayOf(l Limit, day int) api.Errno {
	return check.First(check.Day(day), check.Unless(hasDay(l, day), api.ErrOutside))
}

func hasDay(l Limit, day int) bool {
	has, _ := calendar.Has(l.Period, day)
	return has
}

func firstMoment(day int) int { return day * minutesOfDay }

func lastMoment(day int) int { return day*minutesOfDay + lastMinute }

// first returns the first one of windows, or ErrNone.
func first(windows iter.Seq[Window]) (Window, api.Errno) {
	for w := range windows {
		return w, api.OK
	}
	return Window{}, api.ErrNone
}

// exceeded visits the windows of limits that are exceeded.
func exceeded(limits []Limit, movements []api.Movement) iter.Seq[Window] {
	return func(yield func(Window) bool) {
		for i, l := range limits {
			for w := range allWindows(l, movements) {
				w.Limit = i
				if w.Count > l.Most && !yield(w) {
					return
				}
			}
		}
	}
}

// allWindows visits the windows of a limit.
func allWindows(l Limit, movements []api.Movement) iter.Seq[Window] {
	return windowsOf(l, movements, firstMoment(l.Period.From), lastMoment(l.Period.To))
}

// windowsOf visits the windows of a limit that begin from one moment to another.
func windowsOf(l Limit, movements []api.Movement, from, to int) iter.Seq[Window] {
	return gaugeOf(l, movements, from, to).windows(from, to)
}

// gaugeOf returns what counts the movements in the windows of a limit that begin from one moment to another.
func gaugeOf(l Limit, movements []api.Movement, from, to int) gauge {
	before := map[int]*[minutesOfDay + 1]int{}
	for m := range filter(between(movements, from, to+l.Length), countsFor(l)) {
		day, minute := m.Moment/minutesOfDay, m.Moment%minutesOfDay
		if before[day] == nil {
			before[day] = new([minutesOfDay + 1]int)
		}
		before[day][minute+1]++
	}
	for _, counts := range before {
		for minute := range minutesOfDay {
			counts[minute+1] += counts[minute]
		}
	}
	return gauge{limit: l, before: before}
}

// windows visits the windows that begin from one moment to another, with their counts.
func (g gauge) windows(from, to int) iter.Seq[Window] {
	return func(yield func(Window) bool) {
		for begin := range begins(g.limit, from, to) {
			if !yield(Window{Begin: begin, Count: g.count(begin)}) {
				return
			}
		}
	}
}

// count returns the number of movements in the window that begins at a moment; it ends on the next day at the latest.
func (g gauge) count(begin int) int {
	day, from := begin/minutesOfDay, begin%minutesOfDay
	to := from + g.limit.Length
	return g.on(day, from, min(to, minutesOfDay)) + g.on(day+1, 0, max(to-minutesOfDay, 0))
}

// on returns the number of movements on a day, from one minute on and before another one.
func (g gauge) on(day, from, to int) int {
	counts := g.before[day]
	if counts == nil {
		return 0
	}
	return counts[to] - counts[from]
}

// begins visits the moments from one to another at which windows of a limit begin.
func begins(l Limit, from, to int) iter.Seq[int] {
	return func(yield func(int) bool) {
		for day := max(from/minutesOfDay, l.Period.From); day <= min(to/minutesOfDay, l.Period.To); day++ {
			if !hasDay(l, day) {
				continue
			}
			midnight := firstMoment(day)
			// The numbers of the first and the last step; the first one is above the last one if there is none.
			start := (max(l.From, from-midnight) + l.Step - 1) / l.Step
			end := min(l.To, to-midnight) / l.Step
			for n := range end - start + 1 {
				if !yield(midnight + (start+n)*l.Step) {
					return
				}
			}
		}
	}
}
