package tally

import (
	"iter"
	"slices"

	"turnround/capacity"
)

// gauge is the windows of one limit: the moments at which they begin, ascending, and the count of each of them; before has, for each day from the first one of the period to the one behind it, how many windows begin before it, and no count was ever above the peak.
type gauge struct {
	limit  capacity.Limit
	begins []int
	counts []int
	before []int
	peak   int
}

func gaugeOf(l capacity.Limit) *gauge {
	g := &gauge{limit: l}
	for day := l.Period.From; day <= l.Period.To; day++ {
		g.before = append(g.before, len(g.begins))
		// On a day that is none of the period there is no window, beside an error.
		begins, _ := capacity.Begins(l, day)
		g.begins = append(g.begins, begins...)
	}
	g.before = append(g.before, len(g.begins))
	g.counts = make([]int, len(g.begins))
	return g
}

// indexOf returns how many windows begin before a moment.
func (g *gauge) indexOf(moment int) int {
	day := moment/minutesOfDay - g.limit.Period.From
	switch {
	case day < 0:
		return 0
	case day >= len(g.before)-1:
		return len(g.begins)
	}
	at, _ := slices.BinarySearch(g.begins[g.before[day]:g.before[day+1]], moment)
	return g.before[day] + at
}

// around returns the index of the first window that contains a moment, and that of the first one that begins behind it.
func (g *gauge) around(moment int) (from, to int) {
	return g.indexOf(moment - g.limit.Length + 1), g.indexOf(moment + 1)
}

// add counts a movement in all windows that contain its moment.
func (g *gauge) add(moment, by int) {
	from, to := g.around(moment)
	for i := from; i < to; i++ {
		g.counts[i] += by
		g.peak = max(g.peak, g.counts[i])
	}
}

// exceeded visits the windows that would be exceeded with further movements, which count for the limit and have these moments.
func (g *gauge) exceeded(moments []int) iter.Seq[capacity.Window] {
	return func(yield func(capacity.Window) bool) {
		next := 0
		for i, moment := range moments {
			// The windows before the next one that contain this moment, too, were visited with an earlier one.
			from, to := g.around(moment)
			for next = max(next, from); next < to; next++ {
				w := capacity.Window{Begin: g.begins[next], Count: g.counts[next] + countBefore(moments[i:], g.begins[next]+g.limit.Length)}
				if w.Count > g.limit.Most && !yield(w) {
					return
				}
			}
		}
	}
}

// countBefore returns how many of some moments, which ascend, are before another one.
func countBefore(moments []int, end int) int {
	n := 0
	for n < len(moments) && moments[n] < end {
		n++
	}
	return n
}
