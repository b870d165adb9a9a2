package plan

import (
	"cmp"
	"slices"

	"turnround/api"
	"turnround/check"
	"turnround/lists"
)

// Conflict returns a least set of flights that do not fit together.
func Conflict(r Route) ([]int, api.Errno) {
	s, e := smallRoute(r)
	if e != api.OK {
		return nil, e
	}
	for _, set := range setsOf(len(r.Flights)) {
		if !s.fits(set) {
			return set, api.OK
		}
	}
	return nil, api.ErrNone
}

// CheckConflict returns OK if flights are a least set that do not fit together.
func CheckConflict(r Route, set []int) api.Errno {
	if e := check.First(CheckRoute(r), checkSet(r, set)); e != api.OK {
		return e
	}
	alone := r
	alone.Flights = lists.Transform(set, func(i int) Flight { return r.Flights[i] })
	s, e := smallRoute(alone)
	if e != api.OK {
		return e
	}
	all := lists.Ascending(len(set))
	if s.fits(all) {
		return api.ErrProof
	}
	for i := range all {
		if !s.fits(slices.Concat(all[:i], all[i+1:])) {
			return api.ErrProof
		}
	}
	return api.OK
}

// checkSet returns the first error of the indices of flights, or OK.
func checkSet(r Route, set []int) api.Errno {
	before := -1
	for _, i := range set {
		e := check.First(
			check.Unless(0 <= i && i < len(r.Flights), api.ErrUnknown),
			check.Unless(i > before, api.ErrOrder),
		)
		if e != api.OK {
			return e
		}
		before = i
	}
	return api.OK
}

// setsOf returns the sets of the numbers from 0 to n - 1: the smaller ones first, and those of one size in lexicographic order.
func setsOf(n int) [][]int {
	sets := [][]int{nil}
	for i := range n {
		for _, set := range sets {
			sets = append(sets, append(slices.Clone(set), i))
		}
	}
	slices.SortFunc(sets, func(a, b []int) int {
		return cmp.Or(cmp.Compare(len(a), len(b)), slices.Compare(a, b))
	})
	return sets
}
