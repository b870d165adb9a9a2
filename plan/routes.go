package plan

import (
	"cmp"
	"slices"

	"turnround/allocate"
	"turnround/api"
	"turnround/capacity"
	"turnround/check"
	"turnround/lists"
)

// CheckRoute returns the first error of two linked airports, or OK.
func CheckRoute(r Route) api.Errno {
	return check.First(
		capacity.CheckLimits(r.Near),
		capacity.CheckLimits(r.Far),
		allocate.CheckWishes(wishesOf(r)),
		check.List(r.Flights, api.MaxRequests, checkFlight),
	)
}

// Arrivals returns the movements of a plan at the other end.
func Arrivals(r Route, plan []int) ([]api.Movement, api.Errno) {
	if e := CheckRoute(r); e != api.OK {
		return nil, e
	}
	if _, e := routeMenu(r).numbers(plan); e != api.OK {
		return nil, e
	}
	var arrivals []api.Movement
	for i, f := range r.Flights {
		// The refusal is no candidate, so it has no movements, beside an error.
		departures, _ := allocate.Movements(f.Wish, plan[i])
		arrivals = append(arrivals, lists.Transform(departures, f.arrival)...)
	}
	// They may be beyond the last moment, so package capacity does not merge them; all are of one kind.
	slices.SortStableFunc(arrivals, func(a, b api.Movement) int {
		return cmp.Or(cmp.Compare(a.Moment, b.Moment), cmp.Compare(a.Name, b.Name))
	})
	return arrivals, api.OK
}

// Joint returns the minutes of all flights that fit at both ends.
func Joint(r Route) ([]int, int, api.Errno) {
	s, e := smallRoute(r)
	if e != api.OK {
		return nil, 0, e
	}
	numbers, found := s.cheapest()
	if !found {
		return nil, 0, api.ErrInfeasible
	}
	return s.plan(numbers), s.cost(numbers), api.OK
}

// Talk returns the rounds of offers and refusals of both ends.
func Talk(r Route) ([]Round, []int, api.Errno) {
	if e := CheckRoute(r); e != api.OK {
		return nil, nil, e
	}
	leaving, arriving := near(r.Near, wishesOf(r)).guests(), far(r.Far, r.Flights).guests()
	left := lists.Transform(routeMenu(r).withoutRefusals(), minutesOf)
	var rounds []Round
	for {
		offered := offer(leaving, left)
		refused := refuse(arriving, offered)
		rounds = append(rounds, Round{offered, refused})
		if len(refused) == 0 {
			return rounds, slices.Clone(offered), api.OK
		}
		for _, i := range refused {
			left[i] = slices.DeleteFunc(left[i], func(minute int) bool { return minute == offered[i] })
		}
	}
}

func checkFlight(f Flight) api.Errno {
	return check.First(
		check.Unless(!isLinked(f.Wish), api.ErrPair),
		check.Unless(f.Wish.Request.Kind == api.Departure, api.ErrKind),
		check.Range(f.Block, 1, MaxBlock),
	)
}

func wishesOf(r Route) []allocate.Wish {
	return lists.Transform(r.Flights, func(f Flight) allocate.Wish { return f.Wish })
}

// routeMenu returns the choices of the flights of a route; it costs nothing to refuse one.
func routeMenu(r Route) menu { return menuOf(Problem{Wishes: wishesOf(r)}) }

// smallRoute returns the search for plans of a route that refuse no flight and fit at both ends, or the first error.
func smallRoute(r Route) (*search, api.Errno) {
	if e := CheckRoute(r); e != api.OK {
		return nil, e
	}
	m := routeMenu(r)
	if e := m.checkSize(); e != api.OK {
		return nil, e
	}
	return searchOf(m.withoutRefusals(), near(r.Near, wishesOf(r)), far(r.Far, r.Flights)), api.OK
}

// arrival returns the arrival of a departure of a flight.
func (f Flight) arrival(m api.Movement) api.Movement {
	m.Moment += f.Block
	m.Kind = api.Arrival
	m.Terminal = ""
	return m
}

// offer returns what the near airport offers to flights with minutes that are left to them.
func offer(leaving []guest, left [][]int) []int {
	offered := make([]int, len(leaving))
	for i, g := range leaving {
		offered[i] = refusal
		if at := slices.IndexFunc(left[i], g.fits); at >= 0 {
			offered[i] = left[i][at]
		}
		g.enter(offered[i])
	}
	dismiss(leaving, offered)
	return offered
}

// refuse returns the indices of the flights that the far airport refuses.
func refuse(arriving []guest, offered []int) []int {
	var refused []int
	kept := slices.Clone(offered)
	for i, g := range arriving {
		if !g.fits(kept[i]) {
			refused = append(refused, i)
			kept[i] = refusal
		}
		g.enter(kept[i])
	}
	dismiss(arriving, kept)
	return refused
}
