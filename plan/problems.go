package plan

import (
	"cmp"
	"slices"

	"turnround/allocate"
	"turnround/api"
	"turnround/capacity"
	"turnround/check"
	"turnround/lists"
)

// CheckProblem returns the first error of a problem, or OK.
func CheckProblem(p Problem) api.Errno {
	return check.First(
		capacity.CheckLimits(p.Limits),
		allocate.CheckWishes(p.Wishes),
		check.Unless(!slices.ContainsFunc(p.Wishes, isLinked), api.ErrPair),
		check.Range(p.Penalty, 0, MaxPenalty),
	)
}

// Choices returns the minutes of each wish, and -1 for none.
func Choices(p Problem) ([][]int, api.Errno) {
	if e := CheckProblem(p); e != api.OK {
		return nil, e
	}
	return lists.Transform(menuOf(p), minutesOf), api.OK
}

// Cost returns the cost of a plan.
func Cost(p Problem, plan []int) (int, api.Errno) {
	m, numbers, e := read(p, plan)
	return m.cost(numbers), e
}

// Fits reports whether a plan exceeds no limit.
func Fits(p Problem, plan []int) (bool, api.Errno) {
	if _, _, e := read(p, plan); e != api.OK {
		return false, e
	}
	return admit(near(p.Limits, p.Wishes).guests(), plan), api.OK
}

// Improve returns a plan after the best single change, and what it saves.
func Improve(p Problem, plan []int) ([]int, int, api.Errno) {
	m, numbers, e := read(p, plan)
	if e != api.OK {
		return nil, 0, e
	}
	guests := near(p.Limits, p.Wishes).guests()
	if !admit(guests, plan) {
		return nil, 0, api.ErrFull
	}
	var improved []int
	most := 0
	for i, g := range guests {
		has := m[i][numbers[i]]
		g.leave(has.minute)
		for _, other := range m[i] {
			if saved := has.cost - other.cost; saved > most && g.fits(other.minute) {
				improved, most = slices.Clone(plan), saved
				improved[i] = other.minute
			}
		}
		g.enter(has.minute)
	}
	if most == 0 {
		return nil, 0, api.ErrNone
	}
	return improved, most, api.OK
}

// Burdens returns the cost of each carrier, the greatest first.
func Burdens(p Problem, plan []int) ([]Burden, api.Errno) {
	m, numbers, e := read(p, plan)
	if e != api.OK {
		return nil, e
	}
	return burdensOf(p.Wishes, m.costs(numbers)), api.OK
}

func isLinked(w allocate.Wish) bool { return w.Request.Link != "" }

// read returns the choices of a problem, and the numbers of those of a plan, or the first error of both.
func read(p Problem, plan []int) (menu, []int, api.Errno) {
	if e := CheckProblem(p); e != api.OK {
		return nil, nil, e
	}
	m := menuOf(p)
	numbers, e := m.numbers(plan)
	return m, numbers, e
}

// burdensOf returns the burdens of wishes, of which the first ones have costs.
func burdensOf(l []allocate.Wish, costs []int) []Burden {
	sums := map[string]int{}
	for _, w := range l {
		sums[w.Request.Carrier] = 0
	}
	for i, cost := range costs {
		sums[l[i].Request.Carrier] += cost
	}
	var burdens []Burden
	for carrier, cost := range sums {
		burdens = append(burdens, Burden{carrier, cost})
	}
	slices.SortFunc(burdens, func(a, b Burden) int {
		return cmp.Or(cmp.Compare(b.Cost, a.Cost), cmp.Compare(a.Carrier, b.Carrier))
	})
	return burdens
}
