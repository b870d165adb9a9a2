package allocate

import (
	"maps"
	"slices"

	"turnround/api"
	"turnround/calendar"
	"turnround/capacity"
	"turnround/check"
	"turnround/lists"
	"turnround/tally"
)

// Serve returns the serial allocation.
func Serve(limits []capacity.Limit, l []Wish) ([]Result, api.Errno) {
	if e := check.First(capacity.CheckLimits(limits), CheckWishes(l)); e != api.OK {
		return nil, e
	}
	results := lists.Transform(l, refused)
	t := tally.Of(limits)
	for _, u := range unitsOf(l) {
		o := u.first(t.Fits)
		u.give(o, results)
		t.Put(u.movements(o)...)
	}
	return results, api.OK
}

// CheckAllocation returns the first error of an allocation, or OK.
func CheckAllocation(limits []capacity.Limit, l []Wish, r []Result) api.Errno {
	if e := check.First(capacity.CheckLimits(limits), checkResults(l, r)); e != api.OK {
		return e
	}
	_, e := capacity.First(limits, placed(l, r))
	return check.Unless(e == api.ErrNone, api.ErrFull)
}

// Placed returns all movements of an allocation.
func Placed(l []Wish, r []Result) ([]api.Movement, api.Errno) {
	if e := checkResults(l, r); e != api.OK {
		return nil, e
	}
	return placed(l, r), api.OK
}

// Displacement returns the sum of the displacements of all granted wishes.
func Displacement(l []Wish, r []Result) (int, api.Errno) {
	totals, e := Totals(l, r)
	sum := 0
	for _, total := range totals {
		sum += total.Displaced
	}
	return sum, e
}

// Totals returns the totals of all carriers.
func Totals(l []Wish, r []Result) ([]Total, api.Errno) {
	if e := checkResults(l, r); e != api.OK {
		return nil, e
	}
	totals := map[string]Total{}
	for i, w := range l {
		carrier := w.Request.Carrier
		total := totals[carrier]
		n, _ := calendar.Count(w.Request.Period)
		total.Carrier = carrier
		total.Asked += n
		if r[i].Granted {
			total.Granted += n
			total.Displaced += n * distance(w, r[i].Minute)
		}
		totals[carrier] = total
	}
	carriers := slices.Sorted(maps.Keys(totals))
	return lists.Transform(carriers, func(carrier string) Total { return totals[carrier] }), api.OK
}

// refused returns the result of a wish that is refused.
func refused(w Wish) Result { return Result{Name: nameOf(w)} }

// checkResults returns the first error of wishes and of their results, or OK.
func checkResults(l []Wish, r []Result) api.Errno {
	if e := check.First(CheckWishes(l), check.Unless(len(r) == len(l), api.ErrShape)); e != api.OK {
		return e
	}
	for i, w := range l {
		if e := checkResult(w, r[i]); e != api.OK {
			return e
		}
	}
	for _, u := range unitsOf(l) {
		if !u.isWhole(r) {
			return api.ErrPair
		}
	}
	return api.OK
}

func checkResult(w Wish, r Result) api.Errno {
	return check.First(
		check.Unless(r.Name == nameOf(w), api.ErrName),
		check.Unless(!r.Granted || isCandidate(w, r.Minute), api.ErrOutside),
		check.Unless(r.Granted || r == refused(w), api.ErrState),
	)
}

// placed returns the movements of all granted wishes in order.
func placed(l []Wish, r []Result) []api.Movement {
	var movements []api.Movement
	for i, w := range l {
		if r[i].Granted {
			movements, _ = capacity.Merge(movements, movementsAt(w, r[i].Minute))
		}
	}
	return movements
}
