package plan_test

import (
	"fmt"
	"slices"
	"testing"

	"turnround/allocate"
	"turnround/api"
	"turnround/capacity"
	"turnround/plan"
)

// largeProblem is a problem with many wishes on many days.
func (x *noise) largeProblem(n int) plan.Problem {
	p := plan.Problem{Penalty: pick(x, 10, 100, 1000), Limits: list(
		hour(every(30, 0, 1410), onDays(0, 300, 127), atMost(1+n/10)),
		hour(named("in"), ofKind("A"), lasting(20), every(10, 540, 700), onDays(50, 350, 62), atMost(2)),
		hour(named("t"), ofTerminal("t"), lasting(180), every(15, 0, 1439), onDays(0, 400, 127), atMost(1+n/20)),
	)}
	for i := range n {
		from := x.next(200)
		p.Wishes = append(p.Wishes, wish(fmt.Sprint("w", i), of(pick(x, "x", "y")), kind(pick(x, "A", "D")), in(pick(x, "", "t")),
			at(600+5*x.next(8), 560, 700), step(pick(x, 5, 10, 15)), on(from, from+x.next(200), 1+x.next(127))))
	}
	return p
}

// servedPlan returns the serial allocation as a plan.
func servedPlan(t *testing.T, p plan.Problem) []int {
	t.Helper()
	var choices []int
	for _, r := range ok[[]allocate.Result](t)(allocate.Serve(p.Limits, p.Wishes)) {
		if r.Granted {
			choices = append(choices, r.Minute)
		} else {
			choices = append(choices, -1)
		}
	}
	return choices
}

// P7.5: no bound is above the cost of a plan that fits.
func TestBoundsAreBounds(t *testing.T) {
	x := noise(61)
	for n := range 300 {
		p := x.someProblem()
		choices := x.someFittingPlan(p)
		if n%60 == 0 {
			p = x.largeProblem(64)
			choices = servedPlan(t, p)
		}
		c := x.somePrices(p)
		is(t, fmt.Sprint("the gap of some prices: ", p, choices, c), ok[int](t)(plan.Gap(p, choices, c.l, c.unit)) >= 0, true)
		l, unit := both[[]plan.Price, int](t)(plan.Prices(p))
		is(t, fmt.Sprint("the gap of its prices: ", p, choices), ok[int](t)(plan.Gap(p, choices, l, unit)) >= 0, true)
		if len(p.Wishes) <= 8 {
			best, cost := both[[]int, int](t)(plan.Best(p))
			is(t, fmt.Sprint("the gap of the best plan: ", p, c), ok[int](t)(plan.Gap(p, best, c.l, c.unit)) >= 0, true)
			is(t, fmt.Sprint("the cost of the best plan: ", p), ok[int](t)(plan.Cost(p, best)), cost)
		}
	}
}

// P7.5: the best plan fits, costs at most as much as the serial allocation, and no single change improves it.
func TestBestIsBest(t *testing.T) {
	x := noise(62)
	cheaper := 0
	for range 500 {
		p := x.someProblem()
		best, cost := both[[]int, int](t)(plan.Best(p))
		what := fmt.Sprint(p, best)
		is(t, "it fits: "+what, ok[bool](t)(plan.Fits(p, best)), true)
		served := servedPlan(t, p)
		is(t, "the serial allocation fits: "+what, ok[bool](t)(plan.Fits(p, served)), true)
		n := ok[int](t)(plan.Cost(p, served))
		is(t, fmt.Sprint("the serial allocation is not cheaper: ", n, cost, what), cost <= n, true)
		if cost < n {
			cheaper++
		}
		_, _, e := plan.Improve(p, best)
		is(t, "Improve: "+what, e, api.ErrNone)
	}
	is(t, fmt.Sprint("some are cheaper: ", cheaper), cheaper > 50, true)
}

// P7.5: single changes lead to a plan that no one improves, each by what it saves.
func TestImproveToTheEnd(t *testing.T) {
	x := noise(63)
	for n := range 60 {
		p := x.someProblem()
		if n%20 == 0 {
			p = x.largeProblem(30)
		}
		choices := slices.Repeat(list(-1), len(p.Wishes))
		for {
			next, saved, e := plan.Improve(p, choices)
			if e == api.ErrNone {
				break
			}
			is(t, "error", e, api.OK)
			is(t, "what is saved", ok[int](t)(plan.Cost(p, choices))-ok[int](t)(plan.Cost(p, next)), saved)
			is(t, "it saves something", saved > 0, true)
			is(t, "it fits still", ok[bool](t)(plan.Fits(p, next)), true)
			choices = next
		}
	}
}

// P7.5: the greatest burden of the fairest plan is at most that of any plan that fits.
func TestFairIsFair(t *testing.T) {
	x := noise(64)
	for range 300 {
		p := x.someProblem()
		if len(p.Wishes) == 0 {
			continue
		}
		fair, burdens := both[[]int, []plan.Burden](t)(plan.Fair(p))
		what := fmt.Sprint(p, fair)
		is(t, "it fits: "+what, ok[bool](t)(plan.Fits(p, fair)), true)
		isList(t, "its burdens: "+what, burdens, ok[[]plan.Burden](t)(plan.Burdens(p, fair)))
		best, _ := both[[]int, int](t)(plan.Best(p))
		for _, other := range [][]int{best, servedPlan(t, p), x.someFittingPlan(p), x.someFittingPlan(p)} {
			b := ok[[]plan.Burden](t)(plan.Burdens(p, other))
			is(t, fmt.Sprint("the greatest burden: ", other, what), burdens[0].Cost <= b[0].Cost, true)
			is(t, fmt.Sprint("the burdens: ", other, what), slices.Compare(costsOf(burdens), costsOf(b)) <= 0, true)
		}
	}
}

// fitAtBothEnds reports whether a plan of a route exceeds no limit of both ends.
func fitAtBothEnds(r plan.Route, choices []int) bool {
	var leaving, arriving []api.Movement
	for i, f := range r.Flights {
		leaving = append(leaving, movementsOf(f.Wish, choices[i])...)
		arriving = append(arriving, arrivalsOf(f, choices[i])...)
	}
	return !exceeds(r.Near, leaving) && !exceeds(r.Far, arriving)
}

// P7.5: what a talk ends with fits at both ends, and so does a joint plan.
func TestAgreedIsFitting(t *testing.T) {
	x := noise(65)
	for range 300 {
		r := x.someRoute()
		_, offers := both[[]plan.Round, []int](t)(plan.Talk(r))
		is(t, fmt.Sprint("the talk fits: ", r, offers), fitAtBothEnds(r, offers), true)
		if joint, _, e := plan.Joint(r); e == api.OK {
			is(t, fmt.Sprint("the joint plan fits: ", r, joint), fitAtBothEnds(r, joint), true)
			is(t, "nothing is refused", slices.Contains(joint, -1), false)
		} else {
			is(t, fmt.Sprint("the talk refuses some: ", r, offers), slices.Contains(offers, -1), true)
		}
	}
}

// P7.5: there is a joint plan exactly if there is no conflict, and the conflict is a least one.
func TestJointOrConflict(t *testing.T) {
	x := noise(66)
	seen := [2]int{}
	for range 400 {
		r := x.someRoute()
		_, _, joint := plan.Joint(r)
		set, conflict := plan.Conflict(r)
		if joint == api.OK {
			is(t, fmt.Sprint("no conflict ", r), conflict, api.ErrNone)
			is(t, fmt.Sprint("all flights ", r), plan.CheckConflict(r, ascending(len(r.Flights))), api.ErrProof)
			seen[0]++
			continue
		}
		is(t, fmt.Sprint("no joint plan ", r), joint, api.ErrInfeasible)
		is(t, fmt.Sprint("a conflict ", r), conflict, api.OK)
		is(t, fmt.Sprint("it is least ", r, set), plan.CheckConflict(r, set), api.OK)
		seen[1]++
	}
	is(t, fmt.Sprint("there are some of each: ", seen), min(seen[0], seen[1]) > 50, true)
}

// P7.5: a conflict stays one with more flights, and with lower limits.
func TestConflictsStay(t *testing.T) {
	x := noise(67)
	stayed := 0
	lower := func(limits []capacity.Limit) []capacity.Limit {
		limits = slices.Clone(limits)
		for i := range limits {
			limits[i].Most = x.next(limits[i].Most + 1)
		}
		return limits
	}
	for range 400 {
		r := x.someRoute()
		set, e := plan.Conflict(r)
		if e != api.OK {
			continue
		}
		stayed++
		for n := range len(r.Flights) - len(set) {
			var more []plan.Flight
			for i, f := range r.Flights {
				if slices.Contains(set, i) || i <= n {
					more = append(more, f)
				}
			}
			_, _, e := plan.Joint(plan.Route{Near: r.Near, Far: r.Far, Flights: more})
			is(t, fmt.Sprint("with more flights ", r, set, n), e, api.ErrInfeasible)
		}
		low := plan.Route{Near: append(lower(r.Near), hour(named("more"))), Far: lower(r.Far)}
		for _, i := range set {
			low.Flights = append(low.Flights, r.Flights[i])
		}
		_, _, e = plan.Joint(low)
		is(t, fmt.Sprint("with lower limits ", r, set), e, api.ErrInfeasible)
		_, e = plan.Conflict(low)
		is(t, fmt.Sprint("the conflict with lower limits ", r, set), e, api.OK)
	}
	is(t, fmt.Sprint("there are some: ", stayed), stayed > 100, true)
}
