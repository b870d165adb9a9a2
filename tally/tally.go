// Package tally counts movements in the windows of limits, and takes them away again; layers that try out many movements use it.
package tally

import (
	"iter"
	"slices"

	"turnround/api"
	"turnround/capacity"
	"turnround/lists"
)

// Tally is the windows of limits, with the numbers of the movements that were put into them.
type Tally struct {
	gauges []*gauge
}

// Of returns the tally of limits, which have no error, without movements.
func Of(limits []capacity.Limit) *Tally {
	return &Tally{gauges: lists.Transform(limits, gaugeOf)}
}

// Put counts the movements of series.
func (t *Tally) Put(all ...Series) { t.add(all, 1) }

// Take takes the movements of series away that were put.
func (t *Tally) Take(all ...Series) { t.add(all, -1) }

// Exceeded visits the windows of further movements that would be exceeded with them, by limits, then by beginnings, each with the count that it would have.
func (t *Tally) Exceeded(further ...Series) iter.Seq[capacity.Window] {
	return func(yield func(capacity.Window) bool) {
		for i, g := range t.gauges {
			// A window lasts a day at the most, so it has at most one movement of each series.
			if g.peak+len(further) <= g.limit.Most {
				continue
			}
			for w := range g.exceeded(momentsFor(g.limit, further)) {
				w.Limit = i
				if !yield(w) {
					return
				}
			}
		}
	}
}

// First returns the first window of further movements that would be exceeded with them, or ErrNone.
func (t *Tally) First(further ...Series) (capacity.Window, api.Errno) {
	for w := range t.Exceeded(further...) {
		return w, api.OK
	}
	return capacity.Window{}, api.ErrNone
}

// Fits reports whether no window of further movements would be exceeded with them.
func (t *Tally) Fits(further ...Series) bool {
	_, e := t.First(further...)
	return e == api.ErrNone
}

// Has reports whether a movement of some series counts in a window.
func (t *Tally) Has(w capacity.Window, all ...Series) bool {
	l := t.gauges[w.Limit].limit
	return slices.ContainsFunc(all, func(s Series) bool { return s.CountsIn(l, w.Begin) })
}

func (t *Tally) add(all []Series, by int) {
	for _, g := range t.gauges {
		for _, moment := range momentsFor(g.limit, all) {
			g.add(moment, by)
		}
	}
}
