package plan_test

import (
	"fmt"
	"slices"
	"testing"

	"turnround/allocate"
	"turnround/api"
	"turnround/capacity"
	"turnround/plan"
)

// P7.1: the first error of a problem, and none on the edges of what is permitted.
func TestCheckProblem(t *testing.T) {
	for _, x := range badProblems() {
		is(t, "CheckProblem: "+x.what, plan.CheckProblem(x.value), x.e)
	}
	for _, p := range []plan.Problem{
		{}, three(), {Penalty: 100000}, changed(three(), penalty(0)), changed(three(), penalty(100000)),
		problem(wishes(64)...), problem(wish("a", kind("D")), wish("A")), problem(wish("a", on(99599, 99999, 127)), wish("b", on(0, 0, 1)), wish("c", sized(96))),
		problem(wish("a", func(w *allocate.Wish) { w.Least, w.Most = 0, 1440 })),
	} {
		is(t, fmt.Sprint("CheckProblem ", p), plan.CheckProblem(p), api.OK)
	}
}

// P7.1, P7.2, P7.3: the errors of a problem, then of a plan, then of prices, of all functions that have them.
func TestErrorsOfProblems(t *testing.T) {
	for _, f := range ofProblems {
		for _, x := range badProblems() {
			is(t, f.name+" with "+x.what, f.call(everything{p: x.value}), x.e)
			is(t, f.name+" with a plan, and "+x.what, f.call(everything{p: x.value, plan: list(610), charge: charge{nil, 1}}), x.e)
		}
		for _, x := range badPlans() {
			for _, prices := range []charge{{nil, 0}, {nil, 1}, {make([]plan.Price, 1), 1}} {
				if f.plan {
					// There is room for nothing, too.
					p := changed(three(), limited(hour(atMost(0))))
					is(t, f.name+" with "+x.what, f.call(everything{p: p, plan: x.value, charge: prices}), x.e)
				}
			}
		}
		for _, x := range badPrices() {
			for _, choices := range [][]int{{610, 590, 670}, {610, 610, 610}} {
				if f.prices {
					is(t, f.name+" with "+x.what, f.call(everything{p: three(), plan: choices, charge: x.value}), x.e)
				}
			}
		}
	}
}

// P7.1: the choices of the example.
func TestChoices(t *testing.T) {
	for _, x := range []struct {
		what string
		w    allocate.Wish
		want []int
	}{
		{"the example", wish("a"), list(610, 590, 630, 650, 670, -1)},
		{"one minute", wish("a", only(610)), list(610, -1)},
		{"the first minute", wish("a", only(0)), list(0, -1)},
		{"the last minute", wish("a", at(1439, 1399, 1439)), list(1439, 1419, 1399, -1)},
		{"both sides", wish("a", at(610, 600, 621), step(10)), list(610, 600, 620, -1)},
		{"a wide step", wish("a", at(610, 500, 720), step(120)), list(610, -1)},
	} {
		for n := range 4 {
			p := problem(append(wishes(n), x.w)...)
			got := ok[[][]int](t)(plan.Choices(p))
			is(t, "number of lists", len(got), n+1)
			isList(t, "Choices: "+x.what, got[n], x.want)
			isList(t, "the model: "+x.what, choicesOf(x.w), x.want)
		}
	}
	is(t, "no lists", len(ok[[][]int](t)(plan.Choices(plan.Problem{}))), 0)
	x := noise(11)
	for range 300 {
		p := x.someProblem()
		for i, choices := range ok[[][]int](t)(plan.Choices(p)) {
			isList(t, fmt.Sprint("Choices of ", p.Wishes[i]), choices, choicesOf(p.Wishes[i]))
		}
	}
}

// P7.1: the cost of a plan, whether it fits or not.
func TestCost(t *testing.T) {
	week := on(2, 8, 31)
	for _, x := range []struct {
		what    string
		p       plan.Problem
		choices []int
		want    int
	}{
		{"the example", three(), list(610, 590, 670), 80},
		{"the example that does not fit", three(), list(610, 590, 590), 40},
		{"no wishes", problem(), nil, 0},
		{"all as they asked", three(), list(610, 610, 610), 0},
		{"all refused", three(), list(-1, -1, -1), 300},
		{"one refused", three(), list(630, -1, 610), 120},
		{"no penalty", changed(three(), penalty(0)), list(-1, 590, -1), 20},
		{"five days", problem(wish("a", week), wish("b", week)), list(590, -1), 5*20 + 5*100},
		{"no days", problem(wish("a", on(2, 2, 64)), wish("b", on(2, 2, 64))), list(670, -1), 0},
		{"the greatest penalty", changed(problem(wish("a", on(0, 400, 127))), penalty(100000)), list(-1), 401 * 100000},
		{"the greatest difference", problem(wish("a", at(0, 0, 1439), on(0, 400, 127))), list(1420), 401 * 1420},
		{"64 refused wishes", changed(problem(wishes(64, on(0, 400, 127))...), penalty(100000)), slices.Repeat(list(-1), 64), 64 * 401 * 100000},
	} {
		is(t, "Cost: "+x.what, ok[int](t)(plan.Cost(x.p, x.choices)), x.want)
		is(t, "the model: "+x.what, planCost(x.p, x.choices), x.want)
	}
	x := noise(12)
	for range 300 {
		p := x.someProblem()
		choices := x.somePlan(p.Wishes)
		is(t, fmt.Sprint("Cost ", p, choices), ok[int](t)(plan.Cost(p, choices)), planCost(p, choices))
	}
}

// P7.1: a plan fits if no window is exceeded.
func TestFits(t *testing.T) {
	two := problem(wish("a"), wish("b", kind("D")))
	for _, x := range []struct {
		what    string
		p       plan.Problem
		choices []int
		want    bool
	}{
		{"the example", three(), list(610, 590, 670), true},
		{"the example that does not fit", three(), list(610, 590, 590), false},
		{"no wishes", problem(), nil, true},
		{"no limits", plan.Problem{Wishes: three().Wishes}, list(610, 610, 610), true},
		{"all refused", changed(three(), limited(hour(atMost(0)))), list(-1, -1, -1), true},
		{"one where there is no room", changed(three(), limited(hour(atMost(0)))), list(-1, -1, 610), false},
		{"a refused one does not count", three(), list(610, -1, 670), true},
		{"at the most", changed(three(), limited(hour(atMost(3)))), list(610, 610, 610), true},
		{"one more", changed(three(), limited(hour(atMost(2)))), list(610, 610, 610), false},
		{"both kinds", two, list(610, 610), false},
		{"arrivals alone", changed(two, limited(hour(ofKind("A")))), list(610, 610), true},
		{"of a terminal", changed(two, limited(hour(ofTerminal("t"), atMost(0)))), list(610, 610), true},
		{"at the end of a window", problem(wish("a", only(600)), wish("b", only(660))), list(600, 660), true},
		{"before the end of a window", problem(wish("a", only(600)), wish("b", only(659))), list(600, 659), false},
		{"behind the last window", problem(wish("a", only(720)), wish("b", only(720))), list(720, 720), true},
		{"on another day", problem(wish("a", on(3, 9, 127)), wish("b", on(3, 9, 127))), list(610, 610), true},
		{"on one of their days", problem(wish("a", on(0, 2, 127)), wish("b", on(2, 9, 127))), list(610, 610), false},
		{"on different days", problem(wish("a", on(0, 9, 126)), wish("b", on(2, 9, 127))), list(610, 610), true},
		{"a later limit", changed(three(), limited(hour(atMost(9)), hour(named("b")))), list(610, 590, 590), false},
	} {
		is(t, "Fits: "+x.what, ok[bool](t)(plan.Fits(x.p, x.choices)), x.want)
		is(t, "the model: "+x.what, fits(x.p, x.choices), x.want)
	}
	x := noise(13)
	seen := [2]int{}
	for range 1500 {
		p := x.someProblem()
		choices := x.somePlan(p.Wishes)
		want := fits(p, choices)
		is(t, fmt.Sprint("Fits ", p, choices), ok[bool](t)(plan.Fits(p, choices)), want)
		if want {
			seen[0]++
		} else {
			seen[1]++
		}
	}
	is(t, fmt.Sprint("there are some of each: ", seen), seen[0] > 300 && seen[1] > 300, true)
}

// P7.1: the best single change, and what it saves.
func TestImprove(t *testing.T) {
	free := limited()
	for _, x := range []struct {
		what    string
		p       plan.Problem
		choices []int
		want    []int
		saved   int
	}{
		{"the example", three(), list(610, -1, 670), list(610, 590, 670), 80},
		{"the first one of two wishes", changed(three(), free), list(610, 670, 670), list(610, 610, 670), 60},
		{"the one that saves more", changed(three(), free), list(630, 650, 670), list(630, 650, 610), 60},
		{"a later wish", changed(three(), free), list(610, 610, 590), list(610, 610, 610), 20},
		{"as good as another one", changed(three(), limited(hour())), list(-1, -1, -1), list(610, -1, -1), 100},
		{"a minute that is left", three(), list(590, -1, 670), list(590, 610, 670), 100},
		{"a minute of its own window", three(), list(630, 590, 670), list(610, 590, 670), 20},
		{"to a refusal", changed(three(), penalty(10)), list(610, 590, 670), list(610, 590, -1), 50},
		{"to a refusal without a penalty", changed(three(), penalty(0)), list(610, 590, -1), list(610, -1, -1), 20},
		{"to the first choice of one cost", changed(three(), penalty(20), limited(hour(every(60, 600, 600)))), list(610, 670, -1), list(610, 590, -1), 40},
		{"several days", problem(wish("a", on(2, 8, 31)), wish("b")), list(650, 590), list(610, 590), 200},
	} {
		got, saved := both[[]int, int](t)(plan.Improve(x.p, x.choices))
		isList(t, "Improve: "+x.what, got, x.want)
		is(t, "what it saves: "+x.what, saved, x.saved)
	}
	for _, x := range []struct {
		what    string
		p       plan.Problem
		choices []int
		e       api.Errno
	}{
		{"no wishes", problem(), nil, api.ErrNone},
		{"the best plan", three(), list(610, 590, 670), api.ErrNone},
		{"a plan that two changes improve", three(), list(590, 610, 670), api.ErrNone},
		{"all refused where there is no room", changed(three(), limited(hour(atMost(0)))), list(-1, -1, -1), api.ErrNone},
		{"all refused without a penalty", changed(three(), penalty(0)), list(-1, -1, -1), api.ErrNone},
		{"no days", changed(problem(wish("a", on(2, 2, 64))), penalty(100)), list(-1), api.ErrNone},
		{"one that does not fit", three(), list(610, 590, 590), api.ErrFull},
		{"one that would fit after a change", three(), list(610, 590, 610), api.ErrFull},
		{"one that does not fit, without a penalty", changed(three(), penalty(0)), list(610, 610, -1), api.ErrFull},
	} {
		_, _, e := plan.Improve(x.p, x.choices)
		is(t, "Improve: "+x.what, e, x.e)
	}
}

// P7.1: the best single change as the definition says.
func TestImproveModel(t *testing.T) {
	x := noise(14)
	seen := [3]int{}
	for range 1000 {
		p := x.someProblem()
		choices := x.someFittingPlan(p)
		if x.next(5) == 0 {
			choices = x.somePlan(p.Wishes)
		}
		what := fmt.Sprint("Improve ", p, choices)
		want, most := improved(p, choices)
		got, saved, e := plan.Improve(p, choices)
		switch {
		case !fits(p, choices):
			is(t, what, e, api.ErrFull)
			seen[0]++
		case most == 0:
			is(t, what, e, api.ErrNone)
			seen[1]++
		default:
			is(t, what, e, api.OK)
			isList(t, what, got, want)
			is(t, "what is saved: "+what, saved, most)
			seen[2]++
		}
	}
	is(t, fmt.Sprint("there are some of each: ", seen), min(seen[0], seen[1], seen[2]) > 50, true)
}

// P7.1: the burdens of carriers, the greatest first.
func TestBurdens(t *testing.T) {
	burden := func(carrier string, cost int) plan.Burden { return plan.Burden{Carrier: carrier, Cost: cost} }
	many := problem(wish("a", of("b")), wish("b", of("a")), wish("c", of("B")), wish("d", of("b1")), wish("e", of("a")), wish("f", of("b_")))
	for _, x := range []struct {
		what    string
		p       plan.Problem
		choices []int
		want    []plan.Burden
	}{
		{"the example", three(), list(610, 590, 670), list(burden("x", 60), burden("y", 20))},
		{"the other example", three(), list(610, 670, 590), list(burden("y", 60), burden("x", 20))},
		{"no wishes", problem(), nil, nil},
		{"nothing at all", three(), list(610, 610, 610), list(burden("x", 0), burden("y", 0))},
		{"refusals", three(), list(-1, -1, 590), list(burden("x", 120), burden("y", 100))},
		{"in the order of names", many, list(630, 610, 590, 630, 590, 590), list(burden("B", 20), burden("a", 20), burden("b", 20), burden("b1", 20), burden("b_", 20))},
		{"in the order of costs", many, list(630, -1, 610, 650, 610, 670), list(burden("a", 100), burden("b_", 60), burden("b1", 40), burden("b", 20), burden("B", 0))},
	} {
		isList(t, "Burdens: "+x.what, ok[[]plan.Burden](t)(plan.Burdens(x.p, x.choices)), x.want)
		isList(t, "the model: "+x.what, burdensOf(x.p, x.choices), x.want)
	}
	x := noise(15)
	for range 500 {
		p := x.someProblem()
		choices := x.somePlan(p.Wishes)
		isList(t, fmt.Sprint("Burdens ", p, choices), ok[[]plan.Burden](t)(plan.Burdens(p, choices)), burdensOf(p, choices))
	}
}

// P7.1: plans on the last days, with windows that begin on the last day.
func TestLastDays(t *testing.T) {
	last := changed(problem(wish("a", on(99998, 99999, 127), at(1430, 1400, 1439), step(9)), wish("b", on(99999, 99999, 127), only(1439))), limited(hour(lasting(1440), every(1439, 1439, 1439), onDays(99900, 99999, 127))))
	is(t, "Fits on the last day", ok[bool](t)(plan.Fits(last, list(1439, 1439))), false)
	is(t, "Fits before the window of the last day", ok[bool](t)(plan.Fits(last, list(1430, 1439))), true)
	is(t, "Fits if it is refused", ok[bool](t)(plan.Fits(last, list(-1, 1439))), true)
	var limits []capacity.Limit
	for i := range 32 {
		limits = append(limits, hour(named(fmt.Sprint("l", i))))
	}
	is(t, "Fits with 32 limits", ok[bool](t)(plan.Fits(changed(three(), limited(limits...)), list(610, 590, 670))), true)
}
