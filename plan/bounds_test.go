package plan_test

import (
	"fmt"
	"slices"
	"testing"

	"turnround/api"
	"turnround/capacity"
	"turnround/plan"
)

func price(limit, window, amount int) plan.Price {
	return plan.Price{Limit: limit, Window: window, Amount: amount}
}

// P7.3: the first error of prices, and none on the edges of what is permitted.
func TestCheckPrices(t *testing.T) {
	for _, x := range badPrices() {
		is(t, "CheckPrices: "+x.what, plan.CheckPrices(three(), x.value.l, x.value.unit), x.e)
	}
	long := plan.Problem{Limits: list(hour(every(1, 0, 63)), hour(named("b"), onDays(99999, 99999, 127), every(1439, 0, 1439)), hour(named("c"), onDays(0, 0, 127), every(1440, 0, 1439)))}
	var all []plan.Price
	for i := range 64 {
		all = append(all, price(0, 2880+i, 1))
	}
	for _, x := range []struct {
		what string
		p    plan.Problem
		l    []plan.Price
		unit int
	}{
		{"no prices", three(), nil, 1},
		{"the greatest unit", three(), nil, 1000},
		{"no problem", plan.Problem{}, nil, 1},
		{"the least and the greatest amount", three(), list(price(0, 3420, 1), price(0, 3540, 1000000)), 1},
		{"64 prices", long, all, 1},
		{"the first and the last moment", long, list(price(1, 143999999, 1), price(2, 0, 1)), 1},
		{"a later limit, and an earlier window", long, list(price(0, 2943, 5), price(1, 143998560, 5), price(2, 0, 4)), 1},
	} {
		is(t, "CheckPrices: "+x.what, plan.CheckPrices(x.p, x.l, x.unit), api.OK)
	}
	is(t, "no limit", plan.CheckPrices(plan.Problem{}, list(price(0, 0, 1)), 1), api.ErrUnknown)
	is(t, "65 prices", plan.CheckPrices(long, append(all, price(1, 143999999, 1)), 1), api.ErrMany)
	is(t, "an earlier limit", plan.CheckPrices(long, list(price(1, 143999999, 1), price(0, 2880, 1)), 1), api.ErrOrder)
	is(t, "a window on another weekday", plan.CheckPrices(changed(three(), limited(hour(onDays(0, 6, 126)))), list(price(0, 3420, 1)), 1), api.ErrNone)
	is(t, "a window behind the last one", plan.CheckPrices(long, list(price(0, 2944, 1)), 1), api.ErrNone)
}

// P7.3: the bound by prices.
func TestBound(t *testing.T) {
	many := changed(three(), limited(hour(atMost(999999999))))
	days := changed(problem(wish("a", on(2, 6, 31)), wish("b", on(2, 6, 31))), limited(hour(onDays(0, 9, 127))))
	for _, x := range []struct {
		what string
		p    plan.Problem
		l    []plan.Price
		unit int
		want int
	}{
		{"the example", three(), list(price(0, 3480, 20)), 1, 40},
		{"the example with two prices", three(), list(price(0, 3420, 40), price(0, 3480, 60)), 1, 80},
		{"the example with a unit", three(), list(price(0, 3480, 20)), 3, 14},
		{"the next units", three(), list(price(0, 3480, 20)), 4, 10},
		{"no prices", three(), nil, 7, 0},
		{"no wishes", problem(), list(price(0, 3480, 20)), 1, -20},
		{"no wishes, rounded upwards", problem(), list(price(0, 3480, 20)), 3, -6},
		{"no wishes, and a small amount", problem(), list(price(0, 3480, 2)), 3, 0},
		{"a window without demand", three(), list(price(0, 3540, 20)), 1, -20},
		{"a price that drives all away", three(), list(price(0, 3480, 1000000)), 1, 60 - 1000000},
		{"prices that drive all to refusals", three(), list(price(0, 3420, 1000), price(0, 3480, 1000), price(0, 3540, 1000)), 1, 300 - 3000},
		{"the example in thousandths", three(), list(price(0, 3420, 40000), price(0, 3480, 60000)), 1000, 80},
		{"a thousandth more than there is", three(), list(price(0, 3480, 20001)), 1000, 40},
		{"a thousandth", problem(wish("a"), wish("b")), list(price(0, 3480, 1)), 1000, 1},
		{"two limits on one window", changed(three(), limited(hour(), hour(named("b")))), list(price(0, 3480, 10), price(1, 3480, 10)), 1, 40},
		{"a limit for departures", changed(three(), limited(hour(ofKind("D")))), list(price(0, 3480, 20)), 1, -20},
		{"a limit of a terminal", changed(three(), limited(hour(ofTerminal("t")))), list(price(0, 3480, 20)), 1, -20},
		{"the greatest number of places", many, list(price(0, 3420, 1000000), price(0, 3480, 1000000)), 1, 180 - 2*1000000*999999999},
		{"a window on one of five days", days, list(price(0, 4*1440+600, 100)), 1, 100},
		{"windows on two of five days", days, list(price(0, 4*1440+600, 50), price(0, 5*1440+600, 50)), 1, 100},
		{"no penalty", changed(three(), penalty(0)), list(price(0, 3480, 20)), 1, -20},
	} {
		is(t, "Bound: "+x.what, ok[int](t)(plan.Bound(x.p, x.l, x.unit)), x.want)
		is(t, "the model: "+x.what, boundOf(x.p, x.l, x.unit), x.want)
	}
}

// somePrices are prices for windows of a problem.
func (x *noise) somePrices(p plan.Problem) charge {
	c := charge{unit: pick(x, 1, 1, 1, 3, 10, 1000)}
	for limit, l := range p.Limits {
		for _, begin := range beginsOf(l) {
			if x.next(20) == 0 && len(c.l) < 64 {
				c.l = append(c.l, price(limit, begin, 1+x.next(pick(x, 10, 100, 1000000))))
			}
		}
	}
	return c
}

// P7.3: the bound as the definition says.
func TestBoundModel(t *testing.T) {
	x := noise(31)
	for range 500 {
		p := x.someProblem()
		c := x.somePrices(p)
		is(t, fmt.Sprint("Bound ", p, c), ok[int](t)(plan.Bound(p, c.l, c.unit)), boundOf(p, c.l, c.unit))
	}
}

// P7.3: the cost of a plan less the bound.
func TestGap(t *testing.T) {
	two := list(price(0, 3420, 40), price(0, 3480, 60))
	is(t, "the best plan", ok[int](t)(plan.Gap(three(), list(610, 590, 670), two, 1)), 0)
	is(t, "one price", ok[int](t)(plan.Gap(three(), list(610, 590, 670), two[1:], 1)), 80)
	is(t, "a lower price", ok[int](t)(plan.Gap(three(), list(610, 590, 670), list(price(0, 3480, 20)), 1)), 40)
	is(t, "a unit", ok[int](t)(plan.Gap(three(), list(610, -1, 670), list(price(0, 3480, 20)), 3)), 160-14)
	is(t, "no prices", ok[int](t)(plan.Gap(three(), list(610, -1, 670), nil, 1)), 160)
	is(t, "a bound below 0", ok[int](t)(plan.Gap(problem(), nil, list(price(0, 3480, 20)), 1)), 20)
	_, e := plan.Gap(three(), list(610, 590, 590), two, 1)
	is(t, "a plan that does not fit", e, api.ErrFull)
	_, e = plan.Gap(three(), list(610, 590, 590), two, 0)
	is(t, "a plan that does not fit, and no unit", e, api.ErrRange)
	_, e = plan.Gap(three(), list(610, 590, 590), list(two[0], two[0]), 1)
	is(t, "a plan that does not fit, and prices without an order", e, api.ErrOrder)
	x := noise(32)
	for range 300 {
		p := x.someProblem()
		c := x.somePrices(p)
		choices := x.somePlan(p.Wishes)
		got, e := plan.Gap(p, choices, c.l, c.unit)
		want := planCost(p, choices) - boundOf(p, c.l, c.unit)
		if !fits(p, choices) {
			is(t, fmt.Sprint("Gap ", p, choices, c), e, api.ErrFull)
			want = 0
		}
		is(t, fmt.Sprint("Gap ", p, choices, c), got, want)
	}
}

// P7.3: prices are accepted, and prove the best plans of the examples.
func TestPrices(t *testing.T) {
	for _, x := range solutions() {
		l, unit := both[[]plan.Price, int](t)(plan.Prices(x.p))
		is(t, "CheckPrices: "+x.what, plan.CheckPrices(x.p, l, unit), api.OK)
		_, cost := bestOf(x.p)
		n := ok[int](t)(plan.Bound(x.p, l, unit))
		is(t, fmt.Sprint("a bound from 0 to the best cost: ", x.what, n, cost), 0 <= n && n <= cost, true)
	}
	l, unit := both[[]plan.Price, int](t)(plan.Prices(three()))
	is(t, "the gap of the example", ok[int](t)(plan.Gap(three(), list(610, 590, 670), l, unit)), 0)
	l, _ = both[[]plan.Price, int](t)(plan.Prices(changed(three(), limited(hour(atMost(3))))))
	isList(t, "prices where there is room for all", l, nil)
}

// P7.3: prices of many problems are accepted, and their bounds are good ones.
func TestPricesOfProblems(t *testing.T) {
	x := noise(33)
	tight, loose := 0, 0
	for range 300 {
		p := x.someProblem()
		what := fmt.Sprint("Prices ", p)
		l, unit := both[[]plan.Price, int](t)(plan.Prices(p))
		is(t, what, plan.CheckPrices(p, l, unit), api.OK)
		_, cost := bestOf(p)
		n := ok[int](t)(plan.Bound(p, l, unit))
		is(t, fmt.Sprint("a bound from 0 to the best cost: ", what, n, cost), 0 <= n && n <= cost, true)
		switch {
		case cost > 0 && 10*n >= 9*cost:
			tight++
		case cost > 0:
			loose++
		}
	}
	is(t, fmt.Sprint("most bounds are tight: ", tight, loose), tight > 4*loose, true)
}

// P7.3: there are at most 64 prices, and they are found for the largest problems, too.
func TestPricesOfLargeProblems(t *testing.T) {
	x := noise(34)
	for n := range 3 {
		p := plan.Problem{Limits: list(hour(every(15, 0, 1439), onDays(0, 400, 127), atMost(3))), Penalty: 100000}
		for i := range 64 {
			w := x.someWish(fmt.Sprint("w", i), 2)
			w = changed(w, at(610, 600-40*n, 620+40*n), step(2), on(2+x.next(150), 200+x.next(200), 1+x.next(127)))
			p.Wishes = append(p.Wishes, w)
		}
		l, unit := both[[]plan.Price, int](t)(plan.Prices(p))
		is(t, fmt.Sprint("CheckPrices ", n), plan.CheckPrices(p, l, unit), api.OK)
		is(t, fmt.Sprint("there are prices: ", n), len(l) > 0, true)
		is(t, fmt.Sprint("Bound ", n), ok[int](t)(plan.Bound(p, l, unit)) > 0, true)
	}
	var limits []capacity.Limit
	for i := range 32 {
		limits = append(limits, hour(named(fmt.Sprint("l", i)), every(1, 0, 1439), onDays(0, 9, 127), atMost(i)))
	}
	p := plan.Problem{Limits: limits, Wishes: wishes(64, on(0, 9, 127), sized(96)), Penalty: 100000}
	l, unit := both[[]plan.Price, int](t)(plan.Prices(p))
	is(t, "CheckPrices of 32 limits", plan.CheckPrices(p, l, unit), api.OK)
	is(t, "the bound of 32 limits", ok[int](t)(plan.Bound(p, l, unit)), 64*10*100000)
}

// P7.3: the same problem has the same prices each time.
func TestPricesStay(t *testing.T) {
	x := noise(35)
	for range 50 {
		p := x.someProblem()
		l, unit := both[[]plan.Price, int](t)(plan.Prices(p))
		for range 3 {
			again, n := both[[]plan.Price, int](t)(plan.Prices(p))
			is(t, "the same prices", slices.Equal(l, again) && n == unit, true)
		}
	}
}
