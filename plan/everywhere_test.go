package plan_test

import (
	"fmt"
	"math"
	"slices"
	"strings"
	"testing"

	"turnround/allocate"
	"turnround/api"
	"turnround/capacity"
	"turnround/plan"
)

var (
	oddNumbers = []int{math.MinInt, math.MinInt + 1, -1440, -1, 0, 1, 2, 63, 64, 65, 96, 97, 400, 610, 1000, 1001, 1439, 1440, 1441, 3480, 99999, 100000, 100001, 1000000, 143999999, 144000000, 999999999, math.MaxInt - 1, math.MaxInt}
	oddTexts   = []string{"", " ", "\n", "A", "D", "T", "a", "p", "hour", "-", "\x00", "\xff\xfe", "\xe2\x82", "äö", strings.Repeat("a", 25), strings.Repeat("9", 20000)}
)

// oddWishes has wishes with odd numbers and texts.
func oddWishes() []allocate.Wish {
	all := []allocate.Wish{{}, wish("a", link("b")), wish("a", kind("D"))}
	for i, n := range oddNumbers {
		s, m := oddTexts[i%len(oddTexts)], oddNumbers[len(oddNumbers)-1-i]
		q := api.Request{Name: s, Carrier: s, Kind: s, Terminal: s, Partner: s, Link: s, Period: api.Period{From: n, To: m, Days: n}, Minute: n, Seats: m, Size: n, Noise: m}
		all = append(all,
			allocate.Wish{Request: q, Earliest: n, Latest: m, Step: n, Least: n, Most: m},
			wish("x", at(n, n, n)), wish("x", kind("D"), at(610, n, m), step(1)), wish("x", step(n)), wish("x", kind("D"), on(n, m, 127)), wish("x", on(n, n, n)), wish(s), wish("x", of(s)), wish("x", in(s)),
		)
	}
	return all
}

// oddLimits has lists of limits with odd numbers and texts.
func oddLimits() [][]capacity.Limit {
	all := [][]capacity.Limit{nil, list(hour()), list(hour(atMost(0)))}
	for _, x := range badLimits() {
		all = append(all, x.value)
	}
	for i, n := range oddNumbers {
		s := oddTexts[i%len(oddTexts)]
		all = append(all,
			list(capacity.Limit{Name: s, Kind: s, Terminal: s, Length: n, Step: n, From: n, To: n, Period: api.Period{From: n, To: n, Days: n}, Most: n}),
			list(hour(lasting(n), every(n, 0, 1439))), list(hour(every(7, n, n))), list(hour(onDays(n, n, 127))), list(hour(atMost(n))),
		)
	}
	return all
}

// isOdd calls all functions, and checks that what stands beside an error is zero.
func isOdd(t *testing.T, x everything) {
	t.Helper()
	zero := func(what string, e api.Errno, isZero bool) {
		t.Helper()
		is(t, what+" beside an error is zero", e == api.OK || isZero, true)
	}
	plan.CheckProblem(x.p)
	choices, e := plan.Choices(x.p)
	zero("Choices", e, len(choices) == 0)
	n, e := plan.Cost(x.p, x.plan)
	zero("Cost", e, n == 0)
	fits, e := plan.Fits(x.p, x.plan)
	zero("Fits", e, !fits)
	best, n, e := plan.Best(x.p)
	zero("Best", e, len(best) == 0 && n == 0)
	plan.CheckPrices(x.p, x.l, x.unit)
	n, e = plan.Bound(x.p, x.l, x.unit)
	zero("Bound", e, n == 0)
	prices, n, e := plan.Prices(x.p)
	zero("Prices", e, len(prices) == 0 && n == 0)
	n, e = plan.Gap(x.p, x.plan, x.l, x.unit)
	zero("Gap", e, n == 0)
	improved, n, e := plan.Improve(x.p, x.plan)
	zero("Improve", e, len(improved) == 0 && n == 0)
	burdens, e := plan.Burdens(x.p, x.plan)
	zero("Burdens", e, len(burdens) == 0)
	fair, burdens, e := plan.Fair(x.p)
	zero("Fair", e, len(fair) == 0 && len(burdens) == 0)
	plan.CheckRoute(x.r)
	joint, n, e := plan.Joint(x.r)
	zero("Joint", e, len(joint) == 0 && n == 0)
	rounds, offers, e := plan.Talk(x.r)
	zero("Talk", e, len(rounds) == 0 && len(offers) == 0)
	set, e := plan.Conflict(x.r)
	zero("Conflict", e, len(set) == 0)
	plan.CheckConflict(x.r, x.set)
	arrivals, e := plan.Arrivals(x.r, x.plan)
	zero("Arrivals", e, len(arrivals) == 0)
}

// P1: no wishes make a function panic.
func TestOddWishes(t *testing.T) {
	for i, w := range oddWishes() {
		n := oddNumbers[i%len(oddNumbers)]
		for _, l := range [][]allocate.Wish{{w}, {w, w}, append(three().Wishes, w)} {
			r := plan.Route{Near: list(hour())}
			for _, w := range l {
				r.Flights = append(r.Flights, plan.Flight{Wish: w, Block: 70})
			}
			prices := charge{list(price(0, 3480, 20)), 1}
			isOdd(t, everything{problem(l...), slices.Repeat(list(w.Request.Minute), len(l)), prices, r, list(0)})
			isOdd(t, everything{problem(l...), slices.Repeat(list(-1), len(l)), prices, r, list(0, n)})
		}
		isOdd(t, everything{p: three(), plan: list(610, 590, n), r: pair(), set: list(n)})
		isOdd(t, everything{p: changed(three(), penalty(n)), plan: list(610, -1, 670), charge: charge{nil, n}, r: route(lasts(n, flight("f"))), set: list(0, n)})
	}
}

// P1: no limits and prices make a function panic.
func TestOddArguments(t *testing.T) {
	for i, limits := range oddLimits() {
		n, m := oddNumbers[i%len(oddNumbers)], oddNumbers[(i/2)%len(oddNumbers)]
		for _, l := range [][]plan.Price{nil, list(price(0, n, m)), list(price(n, 3480, 1)), list(price(0, 3420, n), price(n, m, 1))} {
			isOdd(t, everything{changed(three(), limited(limits...)), list(610, 590, 670), charge{l, n}, changed(pair(), nearby(limits...)), list(0, 1)})
			isOdd(t, everything{changed(three(), limited(limits...)), list(-1, -1, -1), charge{l, 1}, changed(pair(), afar(limits...)), list(0, 1)})
			isOdd(t, everything{plan.Problem{Limits: limits}, nil, charge{l, 1}, plan.Route{Far: limits}, nil})
		}
	}
	for _, n := range oddNumbers {
		for _, m := range oddNumbers {
			isOdd(t, everything{three(), list(n, m, -1), charge{list(price(0, n, m)), 1}, pair(only(610)), list(n, m)})
			isOdd(t, everything{three(), list(610, 590, 670), charge{list(price(n, m, 1)), n}, pair(only(610)), list(0, n)})
		}
	}
}

// P1: no lists of any length make a function panic.
func TestOddLists(t *testing.T) {
	for _, n := range []int{0, 1, 2, 8, 9, 32, 33, 63, 64, 65, 1000, 100000} {
		// want is the error of n empty elements, of which there may be only so many.
		want := func(most int) api.Errno {
			switch {
			case n == 0:
				return api.OK
			case n > most:
				return api.ErrMany
			}
			return api.ErrName
		}
		empty := make([]capacity.Limit, n)
		is(t, "CheckProblem with empty limits", plan.CheckProblem(plan.Problem{Limits: empty}), want(32))
		is(t, "CheckProblem with empty wishes", plan.CheckProblem(plan.Problem{Wishes: make([]allocate.Wish, n)}), want(64))
		is(t, "CheckRoute with empty near limits", plan.CheckRoute(plan.Route{Near: empty}), want(32))
		is(t, "CheckRoute with empty far limits", plan.CheckRoute(plan.Route{Far: empty}), want(32))
		is(t, "CheckRoute with empty flights", plan.CheckRoute(plan.Route{Flights: make([]plan.Flight, n)}), want(64))
		prices := charge{make([]plan.Price, n), 1}
		isOdd(t, everything{plan.Problem{Limits: empty}, make([]int, n), prices, plan.Route{Near: empty}, make([]int, n)})
		isOdd(t, everything{plan.Problem{Wishes: make([]allocate.Wish, n)}, make([]int, n), prices, plan.Route{Flights: make([]plan.Flight, n)}, make([]int, n)})
		isOdd(t, everything{three(), make([]int, n), prices, pair(), make([]int, n)})
		isOdd(t, everything{three(), list(610, 590, 670), prices, pair(only(610)), ascending(n)})
	}
}

// P1: the largest inputs are examined to their end.
func TestLargestInputs(t *testing.T) {
	var limits []capacity.Limit
	for i := range 31 {
		limits = append(limits, hour(named(fmt.Sprint("l", i)), every(60, 0, 1439), onDays(99599, 99999, 127), atMost(999999999-i)))
	}
	limits = append(limits, hour(named("last"), every(1, 0, 1439), lasting(1440), onDays(99599, 99999, 127), atMost(62)))
	p := plan.Problem{Limits: limits, Penalty: 100000}
	r := plan.Route{Near: limits, Far: limits}
	for i := range 64 {
		w := wish(long(i), kind("D"), on(99599, 99999, 127), step(1), at(1391, 1344, 1439))
		p.Wishes = append(p.Wishes, w)
		r.Flights = append(r.Flights, plan.Flight{Wish: w, Block: 1440})
	}
	asked := append(slices.Repeat(list(1391), 62), -1, -1)
	is(t, "Fits", ok[bool](t)(plan.Fits(p, asked)), true)
	is(t, "Fits with one more", ok[bool](t)(plan.Fits(p, append(slices.Repeat(list(1391), 63), -1))), false)
	is(t, "Cost", ok[int](t)(plan.Cost(p, asked)), 2*401*100000)
	_, _, e := plan.Improve(p, asked)
	is(t, "Improve", e, api.ErrNone)
	better, saved := both[[]int, int](t)(plan.Improve(p, append(asked[:61:61], 1344, -1, -1)))
	isList(t, "Improve of one", better, asked)
	is(t, "what it saves", saved, 401*47)
	is(t, "Burdens", ok[[]plan.Burden](t)(plan.Burdens(p, asked))[0].Cost, 2*401*100000)
	l, unit := both[[]plan.Price, int](t)(plan.Prices(p))
	is(t, "Gap", ok[int](t)(plan.Gap(p, asked, l, unit)) >= 0, true)
	rounds, offers := both[[]plan.Round, []int](t)(plan.Talk(r))
	is(t, "rounds", len(rounds), 1)
	isList(t, "offers", offers, asked)
	arrivals := ok[[]api.Movement](t)(plan.Arrivals(r, asked))
	is(t, "arrivals", len(arrivals), 62*401)
	is(t, "the last arrival", arrivals[62*401-1].Moment, 99999*1440+1391+1440)
	is(t, "CheckConflict", plan.CheckConflict(r, list(3, 63)), api.ErrProof)
}

// copied returns arguments that share no memory with others.
func copied(x everything) everything {
	x.p.Limits, x.p.Wishes = slices.Clone(x.p.Limits), slices.Clone(x.p.Wishes)
	x.plan, x.l, x.set = slices.Clone(x.plan), slices.Clone(x.l), slices.Clone(x.set)
	x.r.Near, x.r.Far, x.r.Flights = slices.Clone(x.r.Near), slices.Clone(x.r.Far), slices.Clone(x.r.Flights)
	return x
}

// Rules: arguments are not modified, nor is what stands behind a list.
func TestArgumentsStay(t *testing.T) {
	x := noise(71)
	for range 100 {
		args := everything{p: x.someProblem(), r: x.someRoute()}
		args.plan = append(x.someFittingPlan(args.p), 7, 7)
		args.charge = x.somePrices(args.p)
		args.set = append(ascending(len(args.r.Flights)), 7, 7)
		before := copied(args)
		part := args
		part.plan, part.set = args.plan[:len(args.p.Wishes)], args.set[:len(args.r.Flights)]
		for _, f := range slices.Concat(ofProblems, ofRoutes) {
			f.call(part)
		}
		part.plan = slices.Repeat(list(-1), len(args.r.Flights))
		plan.Arrivals(part.r, part.plan)
		isList(t, "limits", args.p.Limits, before.p.Limits)
		isList(t, "wishes", args.p.Wishes, before.p.Wishes)
		isList(t, "the plan", args.plan, before.plan)
		isList(t, "prices", args.l, before.l)
		isList(t, "near limits", args.r.Near, before.r.Near)
		isList(t, "far limits", args.r.Far, before.r.Far)
		isList(t, "flights", args.r.Flights, before.r.Flights)
		isList(t, "the set", args.set, before.set)
	}
}

// isFresh checks that a result does not change with another one of the same call.
func isFresh[T comparable](t *testing.T, what string, call func() ([]T, api.Errno)) {
	t.Helper()
	a, _ := call()
	b, _ := call()
	before := slices.Clone(b)
	is(t, what+" has elements", len(a) > 0, true)
	var zero T
	for i := range a {
		a[i] = zero
	}
	_ = append(a, zero)
	isList(t, what+" after another result was changed", b, before)
	again, _ := call()
	isList(t, what+" called again", again, before)
}

// Rules: results share no memory with arguments, or with each other.
func TestResultsShareNothing(t *testing.T) {
	p, r, choices := three(), pair(), list(610, -1, 670)
	isFresh(t, "Best", func() ([]int, api.Errno) { l, _, e := plan.Best(p); return l, e })
	isFresh(t, "Fair", func() ([]int, api.Errno) { l, _, e := plan.Fair(p); return l, e })
	isFresh(t, "the burdens of Fair", func() ([]plan.Burden, api.Errno) { _, b, e := plan.Fair(p); return b, e })
	isFresh(t, "Prices", func() ([]plan.Price, api.Errno) { l, _, e := plan.Prices(p); return l, e })
	isFresh(t, "Improve", func() ([]int, api.Errno) { l, _, e := plan.Improve(p, choices); return l, e })
	isFresh(t, "Burdens", func() ([]plan.Burden, api.Errno) { return plan.Burdens(p, choices) })
	isFresh(t, "Joint", func() ([]int, api.Errno) { l, _, e := plan.Joint(r); return l, e })
	isFresh(t, "Conflict", func() ([]int, api.Errno) { return plan.Conflict(pair(only(610))) })
	isFresh(t, "Arrivals", func() ([]api.Movement, api.Errno) { return plan.Arrivals(r, list(610, 670)) })
	isFresh(t, "the offers of Talk", func() ([]int, api.Errno) { _, l, e := plan.Talk(r); return l, e })
	isList(t, "the plan", choices, list(610, -1, 670))

	all := ok[[][]int](t)(plan.Choices(p))
	clear(all[0])
	_ = append(all[0], 5)
	isList(t, "the choices of another wish", all[1], choicesOf(p.Wishes[1]))
	rounds, offers := both[[]plan.Round, []int](t)(plan.Talk(r))
	want := talkOf(r)
	for i := range rounds {
		clear(rounds[i].Offered)
		clear(rounds[i].Refused)
		_ = append(append(rounds[i].Offered, 5), append(rounds[i].Refused, 5)...)
		rounds[i] = want[i]
		isRounds(t, "the other rounds", rounds, want)
	}
	isList(t, "the offers", offers, want[1].Offered)
}
