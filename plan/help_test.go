package plan_test

import (
	"fmt"
	"math"
	"slices"
	"strings"
	"testing"

	"turnround/allocate"
	"turnround/api"
	"turnround/capacity"
	"turnround/plan"
)

var day2 = api.Period{From: 2, To: 2, Days: 127}

// bad is a value with an error.
type bad[T any] struct {
	what  string
	value T
	e     api.Errno
}

func is[T comparable](t *testing.T, what string, got, want T) {
	t.Helper()
	if got != want {
		t.Errorf("%s: got %v, want %v", what, got, want)
	}
}

// isList compares lists; nil and empty ones are equal.
func isList[T comparable](t *testing.T, what string, got, want []T) {
	t.Helper()
	if !slices.Equal(got, want) {
		t.Errorf("%s: got %v, want %v", what, got, want)
	}
}

// isRounds compares rounds; nil and empty lists are equal.
func isRounds(t *testing.T, what string, got, want []plan.Round) {
	t.Helper()
	same := slices.EqualFunc(got, want, func(a, b plan.Round) bool {
		return slices.Equal(a.Offered, b.Offered) && slices.Equal(a.Refused, b.Refused)
	})
	if !same {
		t.Errorf("%s: got %v, want %v", what, got, want)
	}
}

// ok returns a result that is to be without an error.
func ok[T any](t *testing.T) func(T, api.Errno) T {
	return func(value T, e api.Errno) T {
		t.Helper()
		is(t, "error", e, api.OK)
		return value
	}
}

// both returns two results that are to be without an error.
func both[S, T any](t *testing.T) func(S, T, api.Errno) (S, T) {
	return func(first S, second T, e api.Errno) (S, T) {
		t.Helper()
		is(t, "error", e, api.OK)
		return first, second
	}
}

func list[T any](all ...T) []T { return all }

// changed returns a value with changes.
func changed[T any](x T, changes ...func(*T)) T {
	for _, change := range changes {
		change(&x)
	}
	return x
}

// wish is a wish of the chapter's examples, with changes.
func wish(name string, changes ...func(*allocate.Wish)) allocate.Wish {
	q := api.Request{Name: name, Carrier: "x", Kind: "A", Period: day2, Minute: 610}
	return changed(allocate.Wish{Request: q, Earliest: 580, Latest: 680, Step: 20}, changes...)
}

func with(change func(q *api.Request)) func(*allocate.Wish) {
	return func(w *allocate.Wish) { change(&w.Request) }
}

func of(carrier string) func(*allocate.Wish) {
	return with(func(q *api.Request) { q.Carrier = carrier })
}

func kind(kind string) func(*allocate.Wish) {
	return with(func(q *api.Request) { q.Kind = kind })
}

func in(terminal string) func(*allocate.Wish) {
	return with(func(q *api.Request) { q.Terminal = terminal })
}

func link(name string) func(*allocate.Wish) {
	return with(func(q *api.Request) { q.Link = name })
}

func on(from, to, mask int) func(*allocate.Wish) {
	return with(func(q *api.Request) { q.Period = api.Period{From: from, To: to, Days: mask} })
}

// at is for a minute, from the earliest to the latest one.
func at(minute, earliest, latest int) func(*allocate.Wish) {
	return func(w *allocate.Wish) { w.Request.Minute, w.Earliest, w.Latest = minute, earliest, latest }
}

// only is for a minute alone.
func only(minute int) func(*allocate.Wish) { return at(minute, minute, minute) }

func step(step int) func(*allocate.Wish) {
	return func(w *allocate.Wish) { w.Step = step }
}

// sized has n candidates, a minute apart, from the minute of the request on.
func sized(n int) func(*allocate.Wish) {
	return func(w *allocate.Wish) { w.Earliest, w.Latest, w.Step = 610, 609+n, 1 }
}

// wishes returns n wishes with the names w0, w1, ..
func wishes(n int, changes ...func(*allocate.Wish)) []allocate.Wish {
	var all []allocate.Wish
	for i := range n {
		all = append(all, wish(fmt.Sprint("w", i), changes...))
	}
	return all
}

// hour is the limit T of the chapter's examples, with changes.
func hour(changes ...func(*capacity.Limit)) capacity.Limit {
	return changed(capacity.Limit{Name: "hour", Kind: "T", Length: 60, Step: 60, From: 540, To: 660, Period: day2, Most: 1}, changes...)
}

func named(name string) func(*capacity.Limit) {
	return func(l *capacity.Limit) { l.Name = name }
}

func ofKind(kind string) func(*capacity.Limit) {
	return func(l *capacity.Limit) { l.Kind = kind }
}

func ofTerminal(terminal string) func(*capacity.Limit) {
	return func(l *capacity.Limit) { l.Terminal = terminal }
}

func lasting(length int) func(*capacity.Limit) {
	return func(l *capacity.Limit) { l.Length = length }
}

// every has windows at the multiples of a step, from one minute to another.
func every(step, from, to int) func(*capacity.Limit) {
	return func(l *capacity.Limit) { l.Step, l.From, l.To = step, from, to }
}

func onDays(from, to, mask int) func(*capacity.Limit) {
	return func(l *capacity.Limit) { l.Period = api.Period{From: from, To: to, Days: mask} }
}

func atMost(most int) func(*capacity.Limit) {
	return func(l *capacity.Limit) { l.Most = most }
}

// problem is a problem with the limit T of the chapter's examples, and their penalty.
func problem(l ...allocate.Wish) plan.Problem {
	return plan.Problem{Limits: list(hour()), Wishes: l, Penalty: 100}
}

// three is the problem P of the chapter's examples.
func three() plan.Problem { return problem(wish("a"), wish("b", of("y")), wish("c")) }

func limited(limits ...capacity.Limit) func(*plan.Problem) {
	return func(p *plan.Problem) { p.Limits = limits }
}

func penalty(n int) func(*plan.Problem) {
	return func(p *plan.Problem) { p.Penalty = n }
}

// flight is a flight of the chapter's examples, with changes of its wish.
func flight(name string, changes ...func(*allocate.Wish)) plan.Flight {
	return plan.Flight{Wish: changed(wish(name, kind("D")), changes...), Block: 70}
}

// lasts returns a flight with another block time.
func lasts(block int, f plan.Flight) plan.Flight {
	f.Block = block
	return f
}

// flights returns n flights with the names w0, w1, ..
func flights(n int, changes ...func(*allocate.Wish)) []plan.Flight {
	var all []plan.Flight
	for i := range n {
		all = append(all, flight(fmt.Sprint("w", i), changes...))
	}
	return all
}

// route is a route with the limits T and U of the chapter's examples.
func route(l ...plan.Flight) plan.Route {
	return plan.Route{Near: list(hour()), Far: list(hour(every(60, 660, 720))), Flights: l}
}

// pair is the route of the chapter's examples, with changes of both wishes.
func pair(changes ...func(*allocate.Wish)) plan.Route {
	return route(flight("f", changes...), flight("g", slices.Concat(list(of("y")), changes)...))
}

func nearby(limits ...capacity.Limit) func(*plan.Route) {
	return func(r *plan.Route) { r.Near = limits }
}

func afar(limits ...capacity.Limit) func(*plan.Route) {
	return func(r *plan.Route) { r.Far = limits }
}

// badLimits has limits with an error.
func badLimits() []bad[[]capacity.Limit] {
	return []bad[[]capacity.Limit]{
		{"33 empty limits", make([]capacity.Limit, 33), api.ErrMany},
		{"an empty limit", make([]capacity.Limit, 1), api.ErrName},
		{"no kind", list(hour(), hour(named("b"), ofKind(""))), api.ErrKind},
		{"no length", list(hour(lasting(0)), hour()), api.ErrRange},
		{"from above to", list(hour(every(1, 2, 1))), api.ErrOrder},
		{"a long period", list(hour(onDays(0, 401, 127))), api.ErrLarge},
		{"no most", list(hour(atMost(-1))), api.ErrRange},
		{"a limit twice", list(hour(), hour()), api.ErrTwice},
	}
}

// badWishes has wishes with an error; each of them is an error of departures, too.
func badWishes() []bad[[]allocate.Wish] {
	d := kind("D")
	return []bad[[]allocate.Wish]{
		{"65 wishes", wishes(65, d, link("z")), api.ErrMany},
		{"65 empty wishes", make([]allocate.Wish, 65), api.ErrMany},
		{"an empty wish", make([]allocate.Wish, 1), api.ErrName},
		{"no carrier", list(wish("a", d), wish("b", d, of("1"))), api.ErrName},
		{"no kind", list(wish("a", kind("T")), wish("b", d, link("-"))), api.ErrKind},
		{"a minute out of range", list(wish("a", d, at(1440, 0, 1439))), api.ErrRange},
		{"the minute before the earliest one", list(wish("a", d, at(579, 580, 680))), api.ErrOrder},
		{"no step", list(wish("a", d, link("a")), wish("b", d, step(0))), api.ErrRange},
		{"97 candidates", list(wish("a", d, sized(97))), api.ErrLimit},
		{"a long period", list(wish("a", d, on(0, 401, 1))), api.ErrLarge},
		{"a wish twice", list(wish("a", d), wish("b", d), wish("a", d, link("b"))), api.ErrTwice},
		{"an unknown link", list(wish("a", d), wish("b", d, link("z"))), api.ErrUnknown},
		{"a link to itself", list(wish("a", d, link("a")), wish("b", d, link("z"))), api.ErrPair},
		{"linked departures", list(wish("a", d, link("b")), wish("b", d, link("a"))), api.ErrPair},
		{"linked wishes", list(wish("a", d, link("b")), wish("b", link("a"))), api.ErrPair},
	}
}

// badProblems has problems with each error, and with later errors beside it.
func badProblems() []bad[plan.Problem] {
	var all []bad[plan.Problem]
	for _, x := range badLimits() {
		all = append(all, bad[plan.Problem]{x.what, plan.Problem{Limits: x.value}, x.e})
		all = append(all, bad[plan.Problem]{x.what + " and more", plan.Problem{Limits: x.value, Wishes: make([]allocate.Wish, 66), Penalty: -1}, x.e})
	}
	for _, x := range badWishes() {
		all = append(all, bad[plan.Problem]{x.what, problem(x.value...), x.e})
		all = append(all, bad[plan.Problem]{x.what + " and more", changed(problem(x.value...), penalty(-1)), x.e})
	}
	for _, n := range []int{math.MinInt, -1, 100001, math.MaxInt} {
		all = append(all, bad[plan.Problem]{fmt.Sprint("penalty ", n), changed(three(), penalty(n)), api.ErrRange})
		all = append(all, bad[plan.Problem]{fmt.Sprint("penalty without wishes ", n), plan.Problem{Penalty: n}, api.ErrRange})
	}
	return all
}

// badPlans has plans with an error for the problem P of the chapter's examples and for three such flights.
func badPlans() []bad[[]int] {
	all := []bad[[]int]{
		{"no plan", nil, api.ErrShape},
		{"a short plan", list(610, 590), api.ErrShape},
		{"a long plan", list(610, 590, 670, 650), api.ErrShape},
		{"a short plan with other minutes", list(0, 0), api.ErrShape},
		{"a plan of any length", make([]int, 1000), api.ErrShape},
	}
	for _, n := range []int{math.MinInt, -610, -2, 0, 1, 550, 570, 579, 580, 600, 609, 611, 680, 690, 710, 1440, math.MaxInt} {
		for i := range 3 {
			x := list(610, 590, -1)
			x[i] = n
			all = append(all, bad[[]int]{fmt.Sprint("the plan ", x), x, api.ErrOutside})
		}
	}
	return all
}

// charge is prices with their unit.
type charge struct {
	l    []plan.Price
	unit int
}

// badPrices has prices with each error for the problem P of the chapter's examples, and with later errors beside it.
func badPrices() []bad[charge] {
	var all []bad[charge]
	add := func(what string, e api.Errno, unit int, l ...plan.Price) {
		all = append(all, bad[charge]{what, charge{l, unit}, e})
	}
	good, late := plan.Price{Window: 3420, Amount: 1}, plan.Price{Limit: -1}
	for _, unit := range []int{math.MinInt, -1, 0, 1001, math.MaxInt} {
		add(fmt.Sprint("unit ", unit), api.ErrRange, unit)
		add(fmt.Sprint("unit and too many prices ", unit), api.ErrRange, unit, make([]plan.Price, 65)...)
	}
	add("65 prices", api.ErrMany, 1, make([]plan.Price, 65)...)
	add("65 prices of no limit", api.ErrMany, 1000, slices.Repeat(list(late), 65)...)
	add("64 prices of no window", api.ErrNone, 1, make([]plan.Price, 64)...)
	for _, limit := range []int{math.MinInt, -1, 1, 2, math.MaxInt} {
		add(fmt.Sprint("limit ", limit), api.ErrUnknown, 1, plan.Price{Limit: limit, Window: 3420, Amount: 1}, late)
		add(fmt.Sprint("limit and more ", limit), api.ErrUnknown, 1, good, plan.Price{Limit: limit, Window: -1})
	}
	for _, window := range []int{math.MinInt, -1, 0, 540, 600, 1980, 3419, 3421, 3450, 3479, 3481, 3490, 3600, 4860, 143999999, 144000000, math.MaxInt} {
		add(fmt.Sprint("window ", window), api.ErrNone, 1, plan.Price{Window: window, Amount: 1}, late)
		add(fmt.Sprint("window and more ", window), api.ErrNone, 1, good, plan.Price{Window: window})
	}
	for _, amount := range []int{math.MinInt, -1, 0, 1000001, math.MaxInt} {
		add(fmt.Sprint("amount ", amount), api.ErrRange, 1, plan.Price{Window: 3420, Amount: amount}, late)
		add(fmt.Sprint("amount and more ", amount), api.ErrRange, 1, good, plan.Price{Window: 3420, Amount: amount})
	}
	add("a window twice", api.ErrOrder, 1, good, good, late)
	add("a window twice with other amounts", api.ErrOrder, 1, good, plan.Price{Window: 3420, Amount: 2})
	add("an earlier window", api.ErrOrder, 1, plan.Price{Window: 3480, Amount: 1}, good)
	add("an earlier window at last", api.ErrOrder, 1, good, plan.Price{Window: 3540, Amount: 1}, plan.Price{Window: 3480, Amount: 1})
	return all
}

// badRoutes has routes with each error, and with later errors beside it.
func badRoutes() []bad[plan.Route] {
	var all []bad[plan.Route]
	add := func(what string, e api.Errno, r plan.Route) {
		all = append(all, bad[plan.Route]{what, r, e})
	}
	for _, x := range badLimits() {
		add("near: "+x.what, x.e, plan.Route{Near: x.value})
		add("near and far: "+x.what, x.e, plan.Route{Near: x.value, Far: make([]capacity.Limit, 34), Flights: make([]plan.Flight, 65)})
		add("far: "+x.what, x.e, plan.Route{Far: x.value})
		add("far and more: "+x.what, x.e, plan.Route{Near: list(hour()), Far: x.value, Flights: make([]plan.Flight, 65)})
	}
	for _, x := range badWishes() {
		for _, block := range []int{70, 0} {
			var l []plan.Flight
			for _, w := range x.value {
				l = append(l, plan.Flight{Wish: w, Block: block})
			}
			add(fmt.Sprint(x.what, " and the block time ", block), x.e, route(l...))
		}
	}
	f, g := flight("f"), flight("g")
	arrival := plan.Flight{Wish: wish("a"), Block: -1}
	add("an arrival", api.ErrKind, route(f, arrival))
	add("an arrival before a block time", api.ErrKind, route(arrival, lasts(0, g)))
	add("a link of a later flight", api.ErrPair, route(lasts(0, flight("f", link("g"))), lasts(70, plan.Flight{Wish: wish("g", link("f"))})))
	add("a link behind an arrival", api.ErrKind, route(arrival, flight("f", link("g")), plan.Flight{Wish: wish("g", link("f"))}))
	for _, n := range []int{math.MinInt, -1, 0, 1441, math.MaxInt} {
		add(fmt.Sprint("block time ", n), api.ErrRange, route(f, lasts(n, g)))
		add(fmt.Sprint("block time before an arrival ", n), api.ErrRange, route(lasts(n, f), arrival))
	}
	return all
}

// badSets has sets of indices with an error for three flights.
func badSets() []bad[[]int] {
	all := []bad[[]int]{
		{"an index twice", list(0, 0), api.ErrOrder},
		{"an index twice at last", list(0, 2, 2), api.ErrOrder},
		{"a lower index", list(1, 0), api.ErrOrder},
		{"a lower index before an unknown one", list(2, 1, 3), api.ErrOrder},
		{"more indices than flights", list(0, 1, 2, 0), api.ErrOrder},
		{"many indices", make([]int, 1000), api.ErrOrder},
	}
	for _, n := range []int{math.MinInt, -1, 3, 8, 64, math.MaxInt} {
		all = append(all, bad[[]int]{fmt.Sprint("unknown ", n), list(n), api.ErrUnknown})
		all = append(all, bad[[]int]{fmt.Sprint("unknown at last ", n), list(0, 1, n), api.ErrUnknown})
		all = append(all, bad[[]int]{fmt.Sprint("unknown before a lower one ", n), list(1, n, 0), api.ErrUnknown})
	}
	return all
}

// everything are arguments of all functions.
type everything struct {
	p    plan.Problem
	plan []int
	charge
	r   plan.Route
	set []int
}

// function is one of the chapter's functions, with what it examines.
type function struct {
	name                  string
	plan, prices, isExact bool
	call                  func(x everything) api.Errno
}

// ofProblems are the functions with a problem.
var ofProblems = []function{
	{"CheckProblem", false, false, false, func(x everything) api.Errno { return plan.CheckProblem(x.p) }},
	{"Choices", false, false, false, func(x everything) api.Errno { _, e := plan.Choices(x.p); return e }},
	{"Cost", true, false, false, func(x everything) api.Errno { _, e := plan.Cost(x.p, x.plan); return e }},
	{"Fits", true, false, false, func(x everything) api.Errno { _, e := plan.Fits(x.p, x.plan); return e }},
	{"Best", false, false, true, func(x everything) api.Errno { _, _, e := plan.Best(x.p); return e }},
	{"CheckPrices", false, true, false, func(x everything) api.Errno { return plan.CheckPrices(x.p, x.l, x.unit) }},
	{"Bound", false, true, false, func(x everything) api.Errno { _, e := plan.Bound(x.p, x.l, x.unit); return e }},
	{"Prices", false, false, false, func(x everything) api.Errno { _, _, e := plan.Prices(x.p); return e }},
	{"Gap", true, true, false, func(x everything) api.Errno { _, e := plan.Gap(x.p, x.plan, x.l, x.unit); return e }},
	{"Improve", true, false, false, func(x everything) api.Errno { _, _, e := plan.Improve(x.p, x.plan); return e }},
	{"Burdens", true, false, false, func(x everything) api.Errno { _, e := plan.Burdens(x.p, x.plan); return e }},
	{"Fair", false, false, true, func(x everything) api.Errno { _, _, e := plan.Fair(x.p); return e }},
}

// ofRoutes are the functions with a route.
var ofRoutes = []function{
	{"CheckRoute", false, false, false, func(x everything) api.Errno { return plan.CheckRoute(x.r) }},
	{"Joint", false, false, true, func(x everything) api.Errno { _, _, e := plan.Joint(x.r); return e }},
	{"Talk", false, false, false, func(x everything) api.Errno { _, _, e := plan.Talk(x.r); return e }},
	{"Conflict", false, false, true, func(x everything) api.Errno { _, e := plan.Conflict(x.r); return e }},
	{"CheckConflict", false, false, false, func(x everything) api.Errno { return plan.CheckConflict(x.r, x.set) }},
	{"Arrivals", true, false, false, func(x everything) api.Errno { _, e := plan.Arrivals(x.r, x.plan); return e }},
}

// noise is a fixed sequence of numbers from 0 to n - 1 for inputs of many forms.
type noise uint32

func (x *noise) next(n int) int {
	*x = *x*1664525 + 1013904223
	return int(*x>>8) % n
}

// pick returns one of some values.
func pick[T any](x *noise, values ...T) T { return values[x.next(len(values))] }

// someLimits are up to n limits near the wishes of problems.
func (x *noise) someLimits(n int) []capacity.Limit {
	var limits []capacity.Limit
	for i := range x.next(n + 1) {
		l := hour(named(fmt.Sprint("l", i)), ofKind(pick(x, "A", "D", "T", "T", "T", "T")), ofTerminal(pick(x, "", "", "", "", "t")))
		l.Length = pick(x, 1, 10, 25, 60, 60, 60, 90, 200, 1440)
		l.Step = pick(x, 10, 15, 20, 30, 60, 60, 120, 1440)
		l.From = pick(x, 0, 0, 0, 0, 540, 580)
		l.To = pick(x, 660, 1439, 1439, 1439)
		l.Period = api.Period{From: x.next(4), To: 3 + x.next(12), Days: pick(x, 127, 127, 127, 1+x.next(127))}
		l.Most = pick(x, 0, 1, 1, 1, 1, 1, 1, 2, 2, 3)
		limits = append(limits, l)
	}
	return limits
}

// someWish is a wish with at most so many candidates.
func (x *noise) someWish(name string, times int) allocate.Wish {
	w := wish(name, of(pick(x, "x", "y", "z", "X")), kind(pick(x, "A", "D")), in(pick(x, "", "", "t", "u")), step(pick(x, 5, 10, 15, 20, 20, 30, 120)))
	minute := pick(x, 600, 600, 605, 610, 620, 10, 1430)
	n := x.next(times)
	earlier := min(x.next(n+1), minute/w.Step)
	later := min(n-earlier, (1439-minute)/w.Step)
	w = changed(w, at(minute, minute-earlier*w.Step, minute+later*w.Step))
	w.Request.Period = api.Period{From: 2 + x.next(2), To: 3 + x.next(10), Days: pick(x, 127, 127, 127, 1+x.next(127))}
	if x.next(3) == 0 {
		w.Request.Period.To = w.Request.Period.From
	}
	w.Request.Seats, w.Request.Size, w.Request.Noise = x.next(1000), x.next(10), x.next(100)
	return w
}

// someProblem is a problem with up to 5 wishes of up to 4 candidates, or up to 8 wishes of up to 2.
func (x *noise) someProblem() plan.Problem {
	n, times := x.next(6), 4
	if x.next(3) == 0 {
		n, times = x.next(9), 2
	}
	p := plan.Problem{Limits: x.someLimits(3), Penalty: pick(x, 0, 1, 10, 30, 50, 100, 100, 100000)}
	isDense := x.next(2) == 0
	if isDense {
		p.Limits = append(p.Limits, x.denseLimit())
	}
	for i := range n {
		// The order of names is not that of the list.
		w := x.someWish(fmt.Sprint("w", n-i), times)
		if isDense {
			w.Request.Period = api.Period{From: 2 + x.next(2), To: 4 + x.next(3), Days: 127}
		}
		p.Wishes = append(p.Wishes, w)
	}
	return p
}

// denseLimit is a limit that refuses much.
func (x *noise) denseLimit() capacity.Limit {
	return hour(named("dense"), lasting(pick(x, 30, 60, 120)), every(pick(x, 15, 30, 60), 0, 1439), onDays(0, 9, 127), atMost(pick(x, 1, 1, 2)))
}

// someRoute is a route with flights like the wishes of problems.
func (x *noise) someRoute() plan.Route {
	p := x.someProblem()
	r := plan.Route{Near: p.Limits, Far: append(x.someLimits(3), x.denseLimit())[x.next(2):]}
	later := pick(x, 1, 10, 60, 70, 300, 835, 900, 1400, 1440)
	for _, w := range p.Wishes {
		w.Request.Kind = "D"
		r.Flights = append(r.Flights, plan.Flight{Wish: w, Block: pick(x, later, later, 1+x.next(1440))})
	}
	for i := range r.Far {
		// Windows in the night, for what arrives on the next day.
		if x.next(3) == 0 {
			r.Far[i].From, r.Far[i].To = 0, 120
		}
	}
	return r
}

// somePlan is a plan of wishes.
func (x *noise) somePlan(l []allocate.Wish) []int {
	var all []int
	for _, w := range l {
		all = append(all, pick(x, choicesOf(w)...))
	}
	return all
}

// someFittingPlan is a plan of a problem that fits.
func (x *noise) someFittingPlan(p plan.Problem) []int {
	all := slices.Repeat(list(-1), len(p.Wishes))
	for _, i := range x.order(len(p.Wishes)) {
		trial := slices.Clone(all)
		trial[i] = pick(x, choicesOf(p.Wishes[i])...)
		if fits(p, trial) {
			all = trial
		}
	}
	return all
}

// order returns the numbers from 0 to n - 1 in some order.
func (x *noise) order(n int) []int {
	var l []int
	for i := range n {
		l = slices.Insert(l, x.next(i+1), i)
	}
	return l
}

// long is a name with the greatest length.
func long(i int) string { return fmt.Sprintf("%s%02d", strings.Repeat("x", 22), i) }
