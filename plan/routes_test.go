package plan_test

import (
	"fmt"
	"testing"

	"turnround/api"
	"turnround/plan"
)

// P7.4: the first error of a route, and none on the edges of what is permitted.
func TestCheckRoute(t *testing.T) {
	for _, x := range badRoutes() {
		is(t, "CheckRoute: "+x.what, plan.CheckRoute(x.value), x.e)
	}
	for _, r := range []plan.Route{
		{}, pair(), route(), route(flights(64)...), route(lasts(1, flight("f")), lasts(1440, flight("F"))), {Flights: flights(3)},
		route(flight("f", on(99599, 99999, 127)), flight("g", on(0, 0, 1)), flight("h", sized(96))),
	} {
		is(t, fmt.Sprint("CheckRoute ", r), plan.CheckRoute(r), api.OK)
	}
}

// P7.4: the errors of a route, of all functions that have one, before those of other arguments.
func TestErrorsOfRoutes(t *testing.T) {
	for _, f := range ofRoutes {
		for _, x := range badRoutes() {
			is(t, f.name+" with "+x.what, f.call(everything{r: x.value}), x.e)
			is(t, f.name+" with more, and "+x.what, f.call(everything{r: x.value, plan: list(5), set: list(-1)}), x.e)
		}
	}
	for _, x := range badPlans() {
		_, e := plan.Arrivals(route(flights(3)...), x.value)
		is(t, "Arrivals with "+x.what, e, x.e)
	}
}

// P7.4: exact searches are for at most eight flights, and for a size of at most 100000 with the refusals.
func TestSizesOfRoutes(t *testing.T) {
	for _, x := range sizes() {
		r := plan.Route{}
		for _, w := range ofSize(x.value...) {
			r.Flights = append(r.Flights, plan.Flight{Wish: w, Block: 70})
		}
		_, _, e := plan.Joint(r)
		is(t, "Joint of "+x.what, e, x.e)
		_, e = plan.Conflict(r)
		none := x.e
		if none == api.OK {
			none = api.ErrNone
		}
		is(t, "Conflict of "+x.what, e, none)
		is(t, "CheckRoute of "+x.what, plan.CheckRoute(r), api.OK)
		proof := x.e
		if proof == api.OK {
			proof = api.ErrProof
		}
		is(t, "CheckConflict of "+x.what, plan.CheckConflict(r, ascending(len(r.Flights))), proof)
		is(t, "CheckConflict of none in "+x.what, plan.CheckConflict(r, nil), api.ErrProof)
		is(t, "CheckConflict with an error in "+x.what, plan.CheckConflict(r, append(ascending(len(r.Flights)), -1)), api.ErrUnknown)
	}
}

// P7.4: the arrivals of a plan, in order.
func TestArrivals(t *testing.T) {
	arrival := func(moment int, name string) api.Movement {
		return api.Movement{Moment: moment, Kind: "A", Name: name}
	}
	facts := flight("f", in("t"), with(func(q *api.Request) {
		q.Seats, q.Size, q.Noise, q.Partner = 180, 4, 12, "far"
	}))
	for _, x := range []struct {
		what    string
		r       plan.Route
		choices []int
		want    []api.Movement
	}{
		{"the example", pair(), list(610, 670), list(arrival(3560, "f"), arrival(3620, "g"))},
		{"the other order", pair(), list(670, 610), list(arrival(3560, "g"), arrival(3620, "f"))},
		{"a plan that does not fit", pair(), list(610, 610), list(arrival(3560, "f"), arrival(3560, "g"))},
		{"no flights", route(), nil, nil},
		{"a refused one", pair(), list(-1, 610), list(arrival(3560, "g"))},
		{"all refused", pair(), list(-1, -1), nil},
		{"seats, size, noise, and no terminal", route(facts), list(610), list(api.Movement{Moment: 3560, Kind: "A", Seats: 180, Size: 4, Noise: 12, Name: "f"})},
		{"several days", route(flight("f", on(2, 8, 5)), flight("g", on(3, 4, 127))), list(610, 670), list(arrival(3560, "f"), arrival(5060, "g"), arrival(6440, "f"), arrival(6500, "g"))},
		{"on the next day", route(lasts(1440, flight("f", only(1439)))), list(1439), list(arrival(2*1440+2879, "f"))},
		{"behind the last moment", route(lasts(1440, flight("f", on(99999, 99999, 127), only(1439)))), list(1439), list(arrival(143999999+1440, "f"))},
		{"in the order of names", route(flight("g", only(610)), flight("f", only(610)), flight("F", only(610))), list(610, 610, 610), list(arrival(3560, "F"), arrival(3560, "f"), arrival(3560, "g"))},
		{"in the order of moments first", route(lasts(90, flight("f", only(610))), lasts(70, flight("g", only(630))), lasts(1, flight("h", only(690)))), list(610, 630, 690), list(arrival(3571, "h"), arrival(3580, "f"), arrival(3580, "g"))},
		{"a later flight that is earlier", route(lasts(91, flight("f")), lasts(70, flight("g"))), list(590, 610), list(arrival(3560, "g"), arrival(3561, "f"))},
		{"no days", route(flight("f", on(2, 2, 64))), list(610), nil},
	} {
		isList(t, "Arrivals: "+x.what, ok[[]api.Movement](t)(plan.Arrivals(x.r, x.choices)), x.want)
		isList(t, "the model: "+x.what, arrivalsOfPlan(x.r, x.choices), x.want)
	}
	x := noise(41)
	for range 300 {
		r := x.someRoute()
		choices := x.somePlan(wishesOf(r))
		isList(t, fmt.Sprint("Arrivals ", r, choices), ok[[]api.Movement](t)(plan.Arrivals(r, choices)), arrivalsOfPlan(r, choices))
	}
}

// agreement is a route with its joint plan, what its talk ends with, and its conflict, of which there is none if there is a joint plan.
type agreement struct {
	what               string
	r                  plan.Route
	joint, talk, clash []int
}

// agreements has routes with what both ends agree on.
func agreements() []agreement {
	day := every(60, 0, 1439)
	narrow := lasts(70, flight("f", at(610, 590, 610)))
	toNextDay := lasts(1000, flight("f", only(610)))
	intoNight := lasts(850, flight("f", only(610)))
	night := hour(lasting(120), every(1380, 1380, 1380))
	return []agreement{
		{"the example", pair(), list(610, 670), list(610, 670), nil},
		{"one minute", pair(only(610)), nil, list(610, -1), list(0, 1)},
		{"one minute, and no place", changed(pair(only(610)), nearby(hour(atMost(0)))), nil, list(-1, -1), list(0)},
		{"no flights", route(), nil, nil, nil},
		{"no limits", plan.Route{Flights: flights(3)}, list(610, 610, 610), list(610, 610, 610), nil},
		{"far limits alone", changed(pair(), nearby()), list(610, 650), list(610, 650), nil},
		{"near limits alone", changed(pair(), afar()), list(610, 590), list(610, 590), nil},
		{"no place at the far end", changed(pair(), afar(hour(every(60, 660, 720), atMost(0)))), nil, list(-1, -1), list(0)},
		{"places for two", changed(pair(), nearby(hour(atMost(2))), afar(hour(atMost(2)))), list(610, 610), list(610, 610), nil},
		{"a talk that does not find the plan", changed(route(narrow, flight("g", only(610))), afar()), list(590, 610), list(610, -1), nil},
		{"a talk that does not find the plan of far limits", changed(route(lasts(70, flight("f", at(650, 630, 650))), flight("g", only(650))), nearby()), list(630, 650), list(650, -1), nil},
		{"an arrival on the next day", changed(route(toNextDay, flight("g", only(100), on(3, 3, 127))), afar(hour(day, onDays(3, 3, 127)))), nil, list(610, -1), list(0, 1)},
		{"an arrival on the next day, without a limit there", changed(route(toNextDay, flight("g", only(100), on(3, 3, 127))), afar(hour(day))), list(610, 100), list(610, 100), nil},
		{"a window past midnight", changed(route(intoNight, lasts(60, flight("g", only(1330)))), afar(night)), nil, list(610, -1), list(0, 1)},
		{"behind a window past midnight", changed(route(lasts(890, flight("f", only(610))), lasts(60, flight("g", only(1330)))), afar(night)), list(610, 1330), list(610, 1330), nil},
		{"a window past midnight in the second week", changed(route(flight("f", only(1390), on(2, 9, 1)), flight("g", only(10), on(10, 10, 127))), afar(), nearby(changed(night, onDays(0, 20, 127)))), nil, list(1390, -1), list(0, 1)},
		{"a near limit of a terminal", changed(pair(only(610), in("t")), nearby(hour(ofTerminal("t"))), afar()), nil, list(610, -1), list(0, 1)},
		{"a near limit of another terminal", changed(pair(only(610), in("t")), nearby(hour(ofTerminal("u"))), afar()), list(610, 610), list(610, 610), nil},
		{"a far limit of a terminal", changed(pair(only(610), in("t")), nearby(), afar(hour(ofTerminal("t"), day))), list(610, 610), list(610, 610), nil},
		{"limits of departures", changed(pair(only(610)), nearby(), afar(hour(ofKind("D"), day))), list(610, 610), list(610, 610), nil},
		{"limits of arrivals", changed(pair(only(610)), nearby(hour(ofKind("A"), day)), afar()), list(610, 610), list(610, 610), nil},
		{"a flight between two others", changed(route(flight("f", only(610)), flight("g", only(700)), flight("h", only(610))), afar()), nil, list(610, 700, -1), list(0, 2)},
		{"three flights for two places", changed(route(flights(3, only(610))...), nearby(hour(atMost(2))), afar()), nil, list(610, 610, -1), list(0, 1, 2)},
		{"three flights, and one alone", changed(route(append(flights(3, only(610)), flight("h", only(700)))...), nearby(hour(atMost(2))), afar(hour(every(720, 720, 720), atMost(0)))), nil, list(610, 610, -1, -1), list(3)},
		{"two pairs", changed(route(flight("f", only(600)), flight("g", only(670)), flight("h", only(670)), flight("k", only(600))), afar()), nil, list(600, 670, -1, -1), list(0, 3)},
		{"a pair that a third flight divides", changed(route(flight("f", at(600, 600, 660), step(60)), flight("g", at(600, 600, 660), step(60)), flight("h", only(660))), afar()), nil, list(600, 660, -1), list(0, 1, 2)},
		{"no days", pair(only(610), on(2, 2, 64)), list(610, 610), list(610, 610), nil},
	}
}

// P7.4: the joint plan, and its cost.
func TestJoint(t *testing.T) {
	for _, x := range agreements() {
		want, cost := jointOf(x.r)
		isList(t, "the model: "+x.what, want, x.joint)
		got, n, e := plan.Joint(x.r)
		if x.clash != nil {
			is(t, "Joint: "+x.what, e, api.ErrInfeasible)
			cost = 0
		} else {
			is(t, "error: "+x.what, e, api.OK)
		}
		isList(t, "Joint: "+x.what, got, x.joint)
		is(t, "its cost: "+x.what, n, cost)
	}
	_, n := both[[]int, int](t)(plan.Joint(pair()))
	is(t, "the cost of the example", n, 60)
	_, n = both[[]int, int](t)(plan.Joint(changed(pair(on(2, 8, 31)), afar(), nearby(hour(onDays(4, 4, 127))))))
	is(t, "the cost on five days", n, 100)
}

// P7.4: the joint plan as the definition says.
func TestJointModel(t *testing.T) {
	x := noise(42)
	seen := [3]int{}
	for range 600 {
		r := x.someRoute()
		want, cost := jointOf(r)
		got, n, e := plan.Joint(r)
		switch {
		case cost < 0:
			is(t, fmt.Sprint("Joint ", r), e, api.ErrInfeasible)
			seen[0]++
			continue
		case cost == 0:
			seen[1]++
		default:
			seen[2]++
		}
		is(t, "error", e, api.OK)
		isList(t, fmt.Sprint("Joint ", r), got, want)
		is(t, fmt.Sprint("the cost of Joint ", r), n, cost)
	}
	is(t, fmt.Sprint("there are some of each: ", seen), min(seen[0], seen[1], seen[2]) > 20, true)
}

// P7.4: the rounds of the talk, and the offers of the last one.
func TestTalk(t *testing.T) {
	for _, x := range agreements() {
		rounds, offers := both[[]plan.Round, []int](t)(plan.Talk(x.r))
		want := talkOf(x.r)
		isRounds(t, "Talk: "+x.what, rounds, want)
		isList(t, "its offers: "+x.what, offers, x.talk)
		isList(t, "the model: "+x.what, want[len(want)-1].Offered, x.talk)
	}
	round := func(offered []int, refused ...int) plan.Round { return plan.Round{Offered: offered, Refused: refused} }
	for _, x := range []struct {
		what string
		r    plan.Route
		want []plan.Round
	}{
		{"the example", pair(), list(round(list(610, 590), 1), round(list(610, 670)))},
		{"no flights", route(), list(round(nil))},
		{"no limits", changed(pair(), nearby(), afar()), list(round(list(610, 610)))},
		{"one minute", pair(only(610)), list(round(list(610, -1)))},
		{"far limits alone", changed(pair(), nearby()), list(round(list(610, 610), 1), round(list(610, 590), 1), round(list(610, 630), 1), round(list(610, 650)))},
		{"all are refused", changed(pair(at(610, 610, 630)), nearby(), afar(hour(every(60, 660, 720), atMost(0)))), list(round(list(610, 610), 0, 1), round(list(630, 630), 0, 1), round(list(-1, -1)))},
		{"a minute that becomes free", changed(route(flight("f", at(610, 610, 670), step(60)), lasts(1, flight("g", only(610)))), afar(hour(every(60, 660, 660), atMost(0)))), list(round(list(610, -1), 0), round(list(670, 610)))},
		{"a refused one makes room for a later one", changed(pair(only(610)), nearby(), afar(hour(every(60, 660, 720), onDays(2, 3, 127)), hour(named("b"), onDays(3, 3, 127), every(60, 660, 720), atMost(0))),
			func(r *plan.Route) { r.Flights[0].Wish.Request.Period.To = 3 }), list(round(list(610, 610), 0), round(list(-1, 610)))},
	} {
		rounds, _ := both[[]plan.Round, []int](t)(plan.Talk(x.r))
		isRounds(t, "Talk: "+x.what, rounds, x.want)
		isRounds(t, "the model: "+x.what, talkOf(x.r), x.want)
	}
}

// P7.4: the talk as the definition says.
func TestTalkModel(t *testing.T) {
	x := noise(43)
	seen := [2]int{}
	for range 600 {
		r := x.someRoute()
		rounds, offers := both[[]plan.Round, []int](t)(plan.Talk(r))
		want := talkOf(r)
		isRounds(t, fmt.Sprint("Talk ", r), rounds, want)
		isList(t, fmt.Sprint("the offers of Talk ", r), offers, want[len(want)-1].Offered)
		if len(want) > 1 {
			seen[1]++
		} else {
			seen[0]++
		}
	}
	is(t, fmt.Sprint("there are some of each: ", seen), min(seen[0], seen[1]) > 100, true)
}

// P7.4: a talk of many flights with many candidates ends.
func TestLongTalk(t *testing.T) {
	r := plan.Route{Near: list(hour(every(1, 0, 1439), onDays(0, 400, 127), atMost(40))), Far: list(hour(every(15, 0, 1439), lasting(30), onDays(0, 400, 127), atMost(1)))}
	for i := range 64 {
		r.Flights = append(r.Flights, flight(fmt.Sprint("w", i), on(i, 300+i, 127), at(610, 560, 660), step(5)))
	}
	rounds, offers := both[[]plan.Round, []int](t)(plan.Talk(r))
	is(t, fmt.Sprint("there are many rounds: ", len(rounds)), len(rounds) > 15, true)
	placed := 0
	for _, minute := range offers {
		if minute != -1 {
			placed++
		}
	}
	// Two arrivals that fit are at least 16 minutes apart, and all are from 630 to 730.
	is(t, "flights that are placed", placed, 3)
}
