package plan_test

import (
	"fmt"
	"slices"
	"testing"

	"turnround/allocate"
	"turnround/api"
	"turnround/capacity"
	"turnround/plan"
)

// solution is a problem with its best plan and its fairest plan.
type solution struct {
	what          string
	p             plan.Problem
	best, fairest []int
}

// solutions has problems with their best and their fairest plans.
func solutions() []solution {
	two := changed(three(), limited(hour(atMost(2))))
	a, b, c := wish("a"), wish("b", of("y")), wish("c")
	days := limited(hour(onDays(0, 20, 127)))
	return []solution{
		{"the example", three(), list(610, 590, 670), list(610, 590, 670)},
		{"nothing", plan.Problem{}, nil, nil},
		{"no wishes", problem(), nil, nil},
		{"without limits", changed(three(), limited()), list(610, 610, 610), list(610, 610, 610)},
		{"no penalty", changed(three(), penalty(0)), list(610, -1, -1), list(610, -1, -1)},
		{"no penalty and no room", changed(three(), penalty(0), limited(hour(atMost(0)))), list(-1, -1, -1), list(-1, -1, -1)},
		{"no penalty, and a minute that costs 1", changed(problem(wish("a", at(610, 610, 611), step(1))), penalty(0), limited(hour(lasting(11), atMost(0)))), list(-1), list(-1)},
		{"no room", changed(three(), limited(hour(atMost(0)))), list(-1, -1, -1), list(-1, -1, -1)},
		{"room for two", two, list(610, 610, 590), list(610, 610, 590)},
		{"a refusal is cheaper", changed(three(), penalty(30)), list(610, 590, -1), list(610, 590, -1)},
		{"a refusal costs as much", changed(three(), penalty(60)), list(610, 590, 670), list(610, 590, 670)},
		{"a refusal costs less", changed(three(), penalty(59)), list(610, 590, -1), list(610, 590, -1)},
		{"a later wish has no choice", problem(a, wish("b", of("y"), only(610))), list(590, 610), list(590, 610)},
		{"the first one gives way to two", problem(a, wish("b", of("y"), only(610)), wish("c", only(590))), list(670, 610, 590), list(670, 610, 590)},
		{"many days are dearer", changed(problem(wish("a", on(2, 2, 127)), wish("b", on(2, 8, 31))), days), list(590, 610), list(590, 610)},
		{"on one day in common", changed(problem(wish("a", on(0, 4, 127)), wish("b", of("y"), on(4, 6, 127))), days), list(610, 590), list(610, 590)},
		{"on no day in common", changed(problem(wish("a", on(0, 3, 127)), wish("b", of("y"), on(4, 6, 127))), days), list(610, 610), list(610, 610)},
		// The best plan costs 80, all of it for x; two carriers with 60 and 40 are fairer.
		{"the burden of one carrier", problem(wish("a", of("y"), at(610, 570, 610), step(40)), wish("b"), wish("c")), list(610, 590, 670), list(570, 610, 670)},
		// Both plans cost 180; the second one has the burdens 100 and 80 instead of 120 and 60.
		{"the burdens of two carriers", problem(a, b, c, wish("d", of("y"), only(610))), list(610, 590, 670, -1), list(590, 610, 670, -1)},
	}
}

// P7.2: the best plan, and its cost.
func TestBest(t *testing.T) {
	for _, x := range solutions() {
		want, cost := bestOf(x.p)
		isList(t, "the model: "+x.what, want, x.best)
		got, n := both[[]int, int](t)(plan.Best(x.p))
		isList(t, "Best: "+x.what, got, x.best)
		is(t, "its cost: "+x.what, n, cost)
	}
}

// P7.2: the fairest plan, and its burdens.
func TestFair(t *testing.T) {
	for _, x := range solutions() {
		want, burdens := fairestOf(x.p)
		isList(t, "the model: "+x.what, want, x.fairest)
		got, b := both[[]int, []plan.Burden](t)(plan.Fair(x.p))
		isList(t, "Fair: "+x.what, got, x.fairest)
		isList(t, "its burdens: "+x.what, b, burdens)
	}
}

// P7.2: the best and the fairest plan as the definitions say.
func TestSearchesModel(t *testing.T) {
	x := noise(21)
	seen := [3]int{}
	for range 600 {
		p := x.someProblem()
		want, cost := bestOf(p)
		got, n := both[[]int, int](t)(plan.Best(p))
		isList(t, fmt.Sprint("Best ", p), got, want)
		is(t, fmt.Sprint("the cost of Best ", p), n, cost)
		fairest, burdens := fairestOf(p)
		fair, b := both[[]int, []plan.Burden](t)(plan.Fair(p))
		isList(t, fmt.Sprint("Fair ", p), fair, fairest)
		isList(t, fmt.Sprint("the burdens of Fair ", p), b, burdens)
		switch {
		case cost == 0:
			seen[0]++
		case slices.Equal(want, fairest):
			seen[1]++
		default:
			seen[2]++
		}
	}
	is(t, fmt.Sprint("there are some of each: ", seen), min(seen[0], seen[1], seen[2]) > 20, true)
}

// P7.2: searches on many days, of which most are alike.
func TestSearchesOnManyDays(t *testing.T) {
	x := noise(22)
	for range 20 {
		p := plan.Problem{Limits: list(x.denseLimit(), hour(named("in"), ofKind("A"), lasting(90), every(20, 0, 1439), atMost(1))), Penalty: 40}
		for i := range p.Limits {
			p.Limits[i].Period = api.Period{From: x.next(50), To: 100 + x.next(200), Days: pick(&x, 127, 1+x.next(127))}
		}
		for i := range 4 {
			w := x.someWish(fmt.Sprint("w", i), 3)
			w.Request.Period = api.Period{From: x.next(100), To: 100 + x.next(100), Days: pick(&x, 127, 1+x.next(127))}
			p.Wishes = append(p.Wishes, w)
		}
		want, cost := bestOf(p)
		got, n := both[[]int, int](t)(plan.Best(p))
		isList(t, fmt.Sprint("Best ", p), got, want)
		is(t, fmt.Sprint("the cost of Best ", p), n, cost)
	}
}

// ofSize returns wishes with as many choices as some numbers say.
func ofSize(numbers ...int) []allocate.Wish {
	var l []allocate.Wish
	for i, n := range numbers {
		l = append(l, wish(fmt.Sprint("w", i), kind("D"), sized(n-1)))
	}
	return l
}

// sizes has numbers of choices with the error of an exact search.
func sizes() []bad[[]int] {
	return []bad[[]int]{
		{"no wishes", nil, api.OK},
		{"a size of 100000", list(10, 10, 10, 10, 10), api.OK},
		{"a size of 100011", list(3, 17, 37, 53), api.ErrLimit},
		{"eight wishes", list(2, 2, 2, 2, 2, 2, 2, 2), api.OK},
		{"nine wishes", list(2, 2, 2, 2, 2, 2, 2, 2, 2), api.ErrLimit},
		{"eight wishes with a size of 98304", list(4, 4, 4, 4, 4, 4, 4, 6), api.OK},
		{"eight wishes with a size of 114688", list(4, 4, 4, 4, 4, 4, 4, 7), api.ErrLimit},
		{"two wishes", list(97, 97), api.OK},
		{"three wishes", list(97, 97, 11), api.ErrLimit},
		{"eight wishes of the greatest size", list(97, 97, 97, 97, 97, 97, 97, 97), api.ErrLimit},
		{"64 wishes", slices.Repeat(list(97), 64), api.ErrLimit},
	}
}

// P7.2: an exact search is for at most eight wishes, and for a size of at most 100000.
func TestSizes(t *testing.T) {
	for _, x := range sizes() {
		p := problem(ofSize(x.value...)...)
		for _, f := range ofProblems {
			if f.isExact {
				is(t, f.name+" of "+x.what, f.call(everything{p: p}), x.e)
			}
		}
		is(t, "CheckProblem of "+x.what, plan.CheckProblem(p), api.OK)
	}
}

// P7.2: a search of the greatest size ends, also where hardly anything can be left out.
func TestGreatestSearch(t *testing.T) {
	var limits []capacity.Limit
	for i := range 6 {
		limits = append(limits, hour(named(fmt.Sprint("l", i)), lasting(1440-i), every(1, 0, 1439), onDays(0, 400, 127), atMost(2+i)))
	}
	var l []allocate.Wish
	for i := range 8 {
		l = append(l, wish(fmt.Sprint("w", i), of(fmt.Sprint("c", i)), on(i, 400-i, 127), at(600+i, 600+i, 602+i), step(1)))
	}
	p := plan.Problem{Limits: limits, Wishes: l, Penalty: 1}
	got, cost := both[[]int, int](t)(plan.Best(p))
	isList(t, "Best", got, list(600, 601, -1, -1, -1, -1, -1, -1))
	is(t, "its cost", cost, 397+395+393+391+389+387)
	fair, burdens := both[[]int, []plan.Burden](t)(plan.Fair(p))
	isList(t, "Fair", fair, list(600, 601, -1, -1, -1, -1, -1, -1))
	is(t, "its greatest burden", burdens[0].Cost, 397)
}
