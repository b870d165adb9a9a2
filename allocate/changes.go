package allocate

import (
	"slices"

	"turnround/api"
	"turnround/capacity"
	"turnround/check"
	"turnround/tally"
)

const lastMinute = 1439

// Revise returns the allocation with one more wish behind all others.
func Revise(limits []capacity.Limit, l []Wish, r []Result, w Wish) ([]Result, api.Errno) {
	_, isThere := placesOf(l)[nameOf(w)]
	e := check.First(
		CheckAllocation(limits, l, r),
		checkWish(w),
		check.Unless(!isThere, api.ErrTwice),
		check.Unless(w.Request.Link == "", api.ErrPair),
		check.Unless(len(l) < api.MaxRequests, api.ErrMany),
	)
	if e != api.OK {
		return nil, e
	}
	t := tallyOf(limits, unitsOf(l), r)
	revised := append(slices.Clone(r), refused(w))
	u := unitOf(append(slices.Clone(l), w), len(l))
	u.give(u.first(t.Fits), revised)
	return revised, api.OK
}

// Withdraw returns what is left of an allocation under other limits.
func Withdraw(limits []capacity.Limit, l []Wish, r []Result) ([]Result, api.Errno) {
	if e := check.First(capacity.CheckLimits(limits), checkResults(l, r)); e != api.OK {
		return nil, e
	}
	kept := slices.Clone(r)
	t := tally.Of(limits)
	for _, u := range unitsOf(l) {
		own := u.movements(u.has(r))
		if t.Fits(own...) {
			t.Put(own...)
		} else {
			u.give(refusal, kept)
		}
	}
	return kept, api.OK
}

// Offers returns the free minutes of a wish beside an allocation.
func Offers(limits []capacity.Limit, l []Wish, r []Result, index int) ([]int, api.Errno) {
	if e := CheckAllocation(limits, l, r); e != api.OK {
		return nil, e
	}
	if index < 0 || index >= len(l) {
		return nil, api.ErrUnknown
	}
	w := l[index]
	if w.Request.Link != "" {
		return nil, api.ErrPair
	}
	others := slices.Clone(r)
	others[index] = refused(w)
	free, _ := capacity.Free(limits, placed(l, others), w.Request, 0, lastMinute)
	return slices.DeleteFunc(free, func(minute int) bool { return !isStep(w, minute) }), api.OK
}
