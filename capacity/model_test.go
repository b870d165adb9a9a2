package capacity_test

import (
	"fmt"
	"slices"

	"turnround/api"
	"turnround/capacity"
)

// The definitions of the chapter, word by word and without haste.

func hasDay(p api.Period, day int) bool {
	return p.From <= day && day <= p.To && p.Days&(1<<((day+5)%7)) != 0
}

// beginsOf returns the moments of a day at which windows of a limit begin.
func beginsOf(l capacity.Limit, day int) []int {
	var begins []int
	for minute := l.From; minute <= l.To; minute++ {
		if hasDay(l.Period, day) && minute%l.Step == 0 {
			begins = append(begins, 1440*day+minute)
		}
	}
	return begins
}

func contains(l capacity.Limit, begin, moment int) bool {
	return begin <= moment && moment < begin+l.Length
}

func counts(l capacity.Limit, m api.Movement) bool {
	return (l.Kind == m.Kind || l.Kind == "T") && (l.Terminal == m.Terminal || l.Terminal == "")
}

func countOf(l capacity.Limit, movements []api.Movement, begin int) int {
	n := 0
	for _, m := range movements {
		if counts(l, m) && contains(l, begin, m.Moment) {
			n++
		}
	}
	return n
}

// windowsOf returns all windows of limits with their counts.
func windowsOf(limits []capacity.Limit, movements []api.Movement) []capacity.Window {
	var windows []capacity.Window
	for i, l := range limits {
		for day := l.Period.From; day <= l.Period.To; day++ {
			for _, begin := range beginsOf(l, day) {
				windows = append(windows, capacity.Window{Limit: i, Begin: begin, Count: countOf(l, movements, begin)})
			}
		}
	}
	return windows
}

func exceeded(limits []capacity.Limit, windows []capacity.Window) []capacity.Window {
	return slices.DeleteFunc(slices.Clone(windows), func(w capacity.Window) bool { return w.Count <= limits[w.Limit].Most })
}

func peakOf(windows []capacity.Window) (capacity.Window, api.Errno) {
	if len(windows) == 0 {
		return capacity.Window{}, api.ErrNone
	}
	peak := windows[0]
	for _, w := range windows {
		if w.Count > peak.Count {
			peak = w
		}
	}
	return peak, api.OK
}

// around returns those of the windows that are windows of a movement.
func around(limits []capacity.Limit, windows []capacity.Window, m api.Movement) []capacity.Window {
	return slices.DeleteFunc(slices.Clone(windows), func(w capacity.Window) bool {
		l := limits[w.Limit]
		return !counts(l, m) || !contains(l, w.Begin, m.Moment)
	})
}

func roomOf(limits []capacity.Limit, windows []capacity.Window, m api.Movement) int {
	room := 999999999
	for _, w := range around(limits, windows, m) {
		room = min(room, max(0, limits[w.Limit].Most-w.Count))
	}
	return room
}

func fullOf(limits []capacity.Limit, windows []capacity.Window, m api.Movement) []capacity.Window {
	return slices.DeleteFunc(around(limits, windows, m), func(w capacity.Window) bool { return w.Count < limits[w.Limit].Most })
}

func movementsOf(r api.Request) []api.Movement {
	var movements []api.Movement
	for day := r.Period.From; day <= r.Period.To; day++ {
		if hasDay(r.Period, day) {
			movements = append(movements, api.Movement{Moment: 1440*day + r.Minute, Kind: r.Kind, Terminal: r.Terminal, Seats: r.Seats, Size: r.Size, Noise: r.Noise, Name: r.Name})
		}
	}
	return movements
}

func fits(limits []capacity.Limit, windows []capacity.Window, r api.Request) bool {
	for _, m := range movementsOf(r) {
		if roomOf(limits, windows, m) == 0 {
			return false
		}
	}
	return true
}

func freeOf(limits []capacity.Limit, windows []capacity.Window, r api.Request, least, most int) []int {
	var free []int
	for r.Minute = least; r.Minute <= most; r.Minute++ {
		if fits(limits, windows, r) {
			free = append(free, r.Minute)
		}
	}
	return free
}

func nearestOf(free []int, minute int) [2]int {
	nearest := [2]int{-1, -1}
	for _, m := range free {
		if m <= minute {
			nearest[0] = max(nearest[0], m)
		}
		if m >= minute && (nearest[1] == -1 || m < nearest[1]) {
			nearest[1] = m
		}
	}
	return nearest
}

// mergedOf inserts each movement behind all those that do not come after it.
func mergedOf(a, b []api.Movement) []api.Movement {
	before := func(m, n api.Movement) bool {
		if m.Moment != n.Moment {
			return m.Moment < n.Moment
		}
		if m.Kind != n.Kind {
			return m.Kind < n.Kind
		}
		return m.Name < n.Name
	}
	var merged []api.Movement
	for _, m := range slices.Concat(a, b) {
		at := len(merged)
		for at > 0 && before(m, merged[at-1]) {
			at--
		}
		merged = slices.Insert(merged, at, m)
	}
	return merged
}

// scene is an input without error: limits, movements and a request that meet within some days.
type scene struct {
	limits    []capacity.Limit
	movements []api.Movement
	request   api.Request
}

const (
	sceneDay  = 100
	sceneDays = 5
)

func (x *noise) mask() int { return pick(x, 127, 127, 1+x.next(127)) }

func (x *noise) period() api.Period {
	from := sceneDay + x.next(sceneDays)
	return pick(x, api.Period{From: from, To: from + x.next(sceneDays), Days: x.mask()}, api.Period{From: sceneDay, To: sceneDay + 2*sceneDays, Days: x.mask()})
}

func (x *noise) limit(name string) capacity.Limit {
	from := pick(x, 0, x.next(1440))
	return capacity.Limit{
		Name: name, Kind: pick(x, "A", "D", "T"), Terminal: pick(x, "", "", "", "t1", "t2"),
		Length: pick(x, 1+x.next(1440), 1+x.next(200), 60, 1440), Step: pick(x, 1+x.next(1440), 10+x.next(90), 60, 1440),
		From: from, To: pick(x, 1439, from+x.next(1440-from)), Period: x.period(), Most: pick(x, 0, 1, 1, 2, 2, 3, 5),
	}
}

func (x *noise) movement() api.Movement {
	minute := pick(x, x.next(1440), x.next(100), 1340+x.next(100))
	return api.Movement{
		Moment: 1440*(sceneDay-1+x.next(2*sceneDays+2)) + minute,
		Kind:   pick(x, "A", "D"), Terminal: pick(x, "", "t1", "t2"), Name: pick(x, "a", "b", "c", "B"), Seats: x.next(1000),
	}
}

// movements returns n movements in the order of their moments alone.
func (x *noise) movements(n int) []api.Movement {
	var all []api.Movement
	for range n {
		all = append(all, x.movement())
	}
	slices.SortStableFunc(all, func(a, b api.Movement) int { return a.Moment - b.Moment })
	return all
}

func (x *noise) request() api.Request {
	return api.Request{Name: "x", Kind: pick(x, "A", "D"), Terminal: pick(x, "", "t1", "t2"), Period: x.period(), Minute: x.next(1440), Size: x.next(10)}
}

func (x *noise) scene() scene {
	var limits []capacity.Limit
	for i := range x.next(8) {
		limits = append(limits, x.limit(fmt.Sprint("l", i)))
	}
	return scene{limits: limits, movements: x.movements(x.next(60)), request: x.request()}
}
