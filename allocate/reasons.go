package allocate

import (
	"iter"
	"slices"

	"turnround/api"
	"turnround/capacity"
	"turnround/check"
	"turnround/tally"
)

// allocation is units with the results of their wishes; it has, for each wish, the index of the first wish of its unit, and the movements that it was granted, and the tally of the better units of one that is examined.
type allocation struct {
	units   []unit
	results []Result
	leads   []int
	granted [][]tally.Series
	better  *tally.Tally
}

// Reasons returns the reasons of an allocation.
func Reasons(limits []capacity.Limit, l []Wish, r []Result) ([]Reason, api.Errno) {
	a, e := examine(limits, l, r)
	if e != api.OK {
		return nil, e
	}
	var reasons []Reason
	for u, o := range a.preferred() {
		w, e := a.better.First(u.movements(o)...)
		if e == api.ErrNone {
			return nil, api.ErrProof
		}
		reasons = append(reasons, Reason{
			Name:    nameOf(u.wishes[0]),
			Minute:  o[0],
			Other:   o[1],
			Limit:   w.Limit,
			Window:  w.Begin,
			Holders: a.holders(u, w),
		})
	}
	return reasons, api.OK
}

// CheckReasons returns OK if reasons prove an allocation.
func CheckReasons(limits []capacity.Limit, l []Wish, r []Result, reasons []Reason) api.Errno {
	a, e := examine(limits, l, r)
	if e != api.OK {
		return e
	}
	left := reasons
	for u, o := range a.preferred() {
		if len(left) == 0 || !a.proves(left[0], u, o) {
			return api.ErrProof
		}
		left = left[1:]
	}
	return check.Unless(len(left) == 0, api.ErrProof)
}

// Envy returns the first justified complaint.
func Envy(limits []capacity.Limit, l []Wish, r []Result) (Complaint, api.Errno) {
	a, e := examine(limits, l, r)
	if e != api.OK {
		return Complaint{}, e
	}
	for u, o := range a.preferred() {
		if a.better.Fits(u.movements(o)...) {
			c := u.complaint(o)
			c.Blockers = a.blockers(u, o)
			return c, api.OK
		}
	}
	return Complaint{}, api.ErrNone
}

// Waste returns the first option that a unit prefers and that is free.
func Waste(limits []capacity.Limit, l []Wish, r []Result) (Complaint, api.Errno) {
	if e := CheckAllocation(limits, l, r); e != api.OK {
		return Complaint{}, e
	}
	units := unitsOf(l)
	t := tallyOf(limits, units, r)
	c, e := Complaint{}, api.ErrNone
search:
	for _, u := range units {
		has := u.has(r)
		t.Take(u.movements(has)...)
		for o := range u.preferred(has) {
			if t.Fits(u.movements(o)...) {
				c, e = u.complaint(o), api.OK
				break search
			}
		}
		t.Put(u.movements(has)...)
	}
	return c, e
}

// examine returns an allocation, before any of its units is examined, or its first error.
func examine(limits []capacity.Limit, l []Wish, r []Result) (allocation, api.Errno) {
	if e := CheckAllocation(limits, l, r); e != api.OK {
		return allocation{}, e
	}
	a := allocation{
		units:   unitsOf(l),
		results: r,
		leads:   make([]int, len(l)),
		granted: make([][]tally.Series, len(l)),
		better:  tally.Of(limits),
	}
	for _, u := range a.units {
		for _, at := range u.at {
			a.leads[at] = u.at[0]
		}
		for i, own := range u.movements(u.has(r)) {
			a.granted[u.at[i]] = []tally.Series{own}
		}
	}
	return a, api.OK
}

// preferred visits, unit by unit, the options that it prefers to what it has, beside the tally of its better units; it can be done once.
func (a allocation) preferred() iter.Seq2[unit, option] {
	return func(yield func(unit, option) bool) {
		for _, u := range a.units {
			has := u.has(a.results)
			for o := range u.preferred(has) {
				if !yield(u, o) {
					return
				}
			}
			a.better.Put(u.movements(has)...)
		}
	}
}

// proves reports whether a reason is one for an option of the unit that is examined.
func (a allocation) proves(reason Reason, u unit, o option) bool {
	if reason.Name != nameOf(u.wishes[0]) || o != (option{reason.Minute, reason.Other}) {
		return false
	}
	for w := range a.better.Exceeded(u.movements(o)...) {
		if w.Limit == reason.Limit && w.Begin == reason.Window {
			return slices.Equal(reason.Holders, a.holders(u, w))
		}
	}
	return false
}

// holders returns the names of the wishes of better units that have a movement in a window.
func (a allocation) holders(u unit, w capacity.Window) []string {
	return a.namesWhere(func(i int) bool { return a.leads[i] < u.at[0] && a.better.Has(w, a.granted[i]...) })
}

// blockers returns the names of the wishes of later units that have a movement in a window that would be exceeded if the unit that is examined had an option.
func (a allocation) blockers(u unit, o option) []string {
	isLater := func(i int) bool { return a.leads[i] > u.at[0] }
	// No unit is examined after this one, so the tally of the better units may become that of all others.
	others := a.better
	for i, own := range a.granted {
		if isLater(i) {
			others.Put(own...)
		}
	}
	windows := slices.Collect(others.Exceeded(u.movements(o)...))
	return a.namesWhere(func(i int) bool {
		return isLater(i) && slices.ContainsFunc(windows, func(w capacity.Window) bool { return others.Has(w, a.granted[i]...) })
	})
}

// namesWhere returns the names of those wishes, given by their indices, for which a condition holds.
func (a allocation) namesWhere(holds func(i int) bool) []string {
	var names []string
	for i, result := range a.results {
		if holds(i) {
			names = append(names, result.Name)
		}
	}
	return names
}

// complaint returns the complaint of a unit about an option, without blockers.
func (u unit) complaint(o option) Complaint {
	return Complaint{Index: u.at[0], Minute: o[0], Other: o[1]}
}
