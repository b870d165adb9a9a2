package allocate_test

import (
	"fmt"
	"slices"
	"testing"

	"turnround/allocate"
	"turnround/api"
	"turnround/capacity"
)

// allocation is wishes beside limits, and their serial allocation: the minutes, where -1 refuses.
type allocation struct {
	what string
	scene
	minutes []int
}

// allocations has serial allocations.
func allocations() []allocation {
	p := pair()
	two := list(hour(atMost(2)))
	arrivals, departures := hour(named("in"), ofKind("A")), hour(named("out"), ofKind("D"))
	all := []allocation{
		{"nothing", scene{}, nil},
		{"no wishes", scene{list(hour()), nil}, nil},
		{"the example", scene{list(hour()), three()}, list(610, 590, 670)},
		{"the example with two in a window", scene{two, three()}, list(610, 610, 590)},
		{"without limits", scene{nil, three()}, list(610, 610, 610)},
		{"none permitted", scene{list(hour(atMost(0))), three()}, list(-1, -1, -1)},
		{"a further wish", scene{list(hour()), append(three(), wish("d"))}, list(610, 590, 670, -1)},
		{"a refused one does not count", scene{list(hour()), list(wish("a"), wish("b", only(620)), wish("c"))}, list(610, -1, 590)},
		{"a limit of another day", scene{list(hour(onDays(3, 9, 127))), three()}, list(610, 610, 610)},
		{"a limit of another weekday", scene{list(hour(onDays(0, 9, 126))), three()}, list(610, 610, 610)},
		{"a limit for departures", scene{list(departures), three()}, list(610, 610, 610)},
		{"a limit of another terminal", scene{list(hour(ofTerminal("t"))), three()}, list(610, 610, 610)},
		{"a limit of a terminal", scene{list(hour(ofTerminal("t"))), list(wish("a", in("t")), wish("b"), wish("c", in("t")), wish("d", in("u")))}, list(610, 610, 590, 610)},
		{"two limits", scene{list(arrivals, hour(named("all"), atMost(2))), list(wish("a"), wish("b", kind("D")), wish("c", kind("D")), wish("d"))}, list(610, 610, 590, 590)},
		{"the earlier one of two minutes", scene{list(hour(every(60, 600, 600), lasting(1))), list(wish("a", only(600)), wish("b", at(600, 580, 620)))}, list(600, 580)},
		{"the later one if the earlier one is full", scene{list(hour(every(60, 600, 600))), list(wish("a"), wish("b", at(610, 590, 670)), wish("c", at(610, 610, 670)))}, list(610, 590, 670)},
		{"a window that begins with a movement", scene{list(hour(every(60, 600, 600))), list(wish("a", only(600)), wish("b", at(599, 599, 600), step(1)))}, list(600, 599)},
		{"a window that ends with a movement", scene{list(hour(every(60, 600, 600))), list(wish("a", only(659)), wish("b", at(659, 659, 660), step(1)))}, list(659, 660)},
		{"some days in common", scene{list(hour(onDays(0, 9, 127))), list(wish("a", on(2, 4, 127)), wish("b", on(4, 6, 127)), wish("c", on(5, 9, 127)), wish("d", on(2, 3, 127)), wish("e", on(4, 5, 127)))}, list(610, 590, 610, 590, 670)},
		{"no days", scene{list(hour(atMost(0))), list(wish("a", on(2, 2, 64)))}, list(610)},
		{"past midnight", scene{list(hour(every(1440, 0, 1439), lasting(1440), onDays(1, 1, 127))), list(wish("a", on(1, 1, 127), only(0)), wish("b", only(0)))}, list(0, 0)},
		{"a window past midnight", scene{list(hour(every(10, 1430, 1430), lasting(60), onDays(1, 1, 127))), list(wish("a", on(1, 1, 127), only(1435)), wish("b", at(40, 40, 60)), wish("c", at(49, 49, 50), step(1)))}, list(1435, 60, 50)},

		{"the example of linked wishes", scene{list(hour()), p}, list(610, 670)},
		{"linked wishes with two in a window", scene{two, p}, list(610, 650)},
		{"linked wishes without limits", scene{nil, p}, list(610, 650)},
		{"linked wishes that are refused", scene{list(hour(every(60, 540, 1200), lasting(120))), p}, list(-1, -1)},
		{"the departure alone is refused", scene{list(hour(ofKind("D"), atMost(0))), append(pair(), wish("a"))}, list(-1, -1, 610)},
		{"the arrival alone is refused", scene{list(hour(ofKind("A"), atMost(0))), append(pair(), wish("a", kind("D")))}, list(-1, -1, 610)},
		{"the departure leads", scene{list(hour()), list(p[1], p[0])}, list(650, 590)},
		{"linked wishes are served at the place of the first one", scene{list(hour()), list(p[0], wish("a"), p[1])}, list(610, 590, 670)},
		{"the ground times of the departure have no effect", scene{nil, changed(pair(), func(l *[]allocate.Wish) { (*l)[1].Least, (*l)[1].Most = 1440, 1440 })}, list(610, 650)},
		{"no ground time is permitted", scene{nil, changed(pair(), func(l *[]allocate.Wish) { (*l)[0].Least, (*l)[0].Most = 100, 1440 })}, list(-1, -1)},
		{"a ground time of 0", scene{list(arrivals, departures), list(wish("a", link("b"), only(610)), wish("b", kind("D"), link("a"), only(610)))}, list(610, 610)},
		{"a ground time of 0 in one window", scene{list(hour()), list(wish("a", link("b"), only(610)), wish("b", kind("D"), link("a"), only(610)))}, list(-1, -1)},
		{"a departure and the next arrival in one window", scene{list(hour(every(30, 1410, 1410), lasting(120), onDays(0, 9, 127))), list(wish("a", link("b"), on(2, 3, 127), at(80, 60, 100), ground(0, 1440)), wish("b", kind("D"), link("a"), on(2, 3, 127), only(1439)))}, list(100, 1439)},
	}
	return all
}

// P6.2: the serial allocation.
func TestServe(t *testing.T) {
	for _, x := range allocations() {
		want := results(x.wishes, x.minutes...)
		isList(t, "the model: "+x.what, served(x.scene), want)
		isList(t, "Serve: "+x.what, ok[[]allocate.Result](t)(allocate.Serve(x.limits, x.wishes)), want)
		is(t, "CheckAllocation: "+x.what, allocate.CheckAllocation(x.limits, x.wishes, want), api.OK)
	}
}

// P6.2: the serial allocation as the definition says.
func TestServeModel(t *testing.T) {
	x := noise(21)
	seen := [2]int{}
	for range 1500 {
		s := x.someScene()
		r, e := allocate.Serve(s.limits, s.wishes)
		is(t, "error", e, api.OK)
		want := served(s)
		isList(t, fmt.Sprint("Serve ", s), r, want)
		for i, result := range want {
			switch {
			case !result.Granted:
				seen[0]++
			case result.Minute != s.wishes[i].Request.Minute:
				seen[1]++
			}
		}
	}
	is(t, fmt.Sprint("there are some refusals and displacements: ", seen), seen[0] > 300 && seen[1] > 300, true)
}

// P6.2: the errors of limits, wishes and results, from left to right, and those of the allocation.
func TestErrorsOfArguments(t *testing.T) {
	late := everything{w: allocate.Wish{}, index: -1, reasons: make([]allocate.Reason, 1)}
	for _, f := range functions {
		for _, x := range badLimits() {
			if f.limits {
				for _, wishes := range [][]allocate.Wish{three(), make([]allocate.Wish, 1)} {
					args := late
					args.limits, args.l, args.r = x.value, wishes, refusals(wishes)
					is(t, f.name+" with limits: "+x.what, f.call(args), x.e)
				}
			}
		}
		for _, x := range badLists() {
			for _, r := range [][]allocate.Result{refusals(x.value), nil, make([]allocate.Result, 1)} {
				args := late
				args.limits, args.l, args.r = list(hour(atMost(0))), x.value, r
				is(t, f.name+" with wishes: "+x.what, f.call(args), x.e)
			}
		}
		for _, x := range badOutcomes() {
			if f.results {
				args := late
				args.limits, args.l, args.r = list(hour(atMost(0))), x.value.l, x.value.r
				is(t, f.name+" with results: "+x.what, f.call(args), x.e)
			}
		}
		for _, minutes := range [][]int{{610, 610, -1}, {610, 590, 590}, {-1, 670, 670}, {590, 650, 630}} {
			if f.full {
				args := late
				args.limits, args.l, args.r = list(hour()), three(), results(three(), minutes...)
				is(t, fmt.Sprint(f.name, " with an exceeded limit ", minutes), f.call(args), api.ErrFull)
			}
		}
	}
}

// P6.2: an allocation exceeds no limit in any window.
func TestCheckAllocation(t *testing.T) {
	all := list(hour())
	for _, x := range []struct {
		what    string
		limits  []capacity.Limit
		minutes []int
		want    api.Errno
	}{
		{"the serial one", all, list(610, 590, 670), api.OK},
		{"another one", all, list(670, 610, 590), api.OK},
		{"all refused", list(hour(atMost(0))), list(-1, -1, -1), api.OK},
		{"two in a window", all, list(610, 650, 670), api.ErrFull},
		{"two in the last window", all, list(610, 670, 670), api.ErrFull},
		{"two permitted", list(hour(atMost(2))), list(610, 650, 670), api.OK},
		{"three of two", list(hour(atMost(2))), list(610, 650, 630), api.ErrFull},
		{"no limits", nil, list(610, 610, 610), api.OK},
		{"one exceeded limit of two", list(hour(atMost(3)), hour(named("b"), every(1, 610, 610), lasting(1))), list(610, 610, 590), api.ErrFull},
		{"many exceeded windows", list(hour(atMost(0), every(1, 0, 1439), lasting(1440))), list(610, 610, 610), api.ErrFull},
	} {
		is(t, "CheckAllocation: "+x.what, allocate.CheckAllocation(x.limits, three(), results(three(), x.minutes...)), x.want)
	}
	p := pair()
	is(t, "linked wishes in one window", allocate.CheckAllocation(all, p, results(p, 610, 650)), api.ErrFull)
	is(t, "linked wishes in two windows", allocate.CheckAllocation(all, p, results(p, 590, 650)), api.OK)
	is(t, "linked wishes with the least ground time", allocate.CheckAllocation(nil, p, results(p, 590, 630)), api.OK)
	is(t, "linked wishes with the most ground time", allocate.CheckAllocation(nil, p, results(p, 610, 670)), api.OK)
	is(t, "linked wishes that are refused", allocate.CheckAllocation(all, p, refusals(p)), api.OK)
}

// P6.2: allocations, their movements, displacements and totals as the definitions say.
func TestResultsModel(t *testing.T) {
	x := noise(22)
	full := 0
	for range 1500 {
		s := x.someScene()
		r := x.someResults(s.wishes)
		want := api.OK
		if isExceeding(s, r) {
			want = api.ErrFull
			full++
		}
		is(t, fmt.Sprint("CheckAllocation ", s, r), allocate.CheckAllocation(s.limits, s.wishes, r), want)
		isList(t, fmt.Sprint("Placed ", s, r), ok[[]api.Movement](t)(allocate.Placed(s.wishes, r)), placed(s.wishes, r))
		is(t, fmt.Sprint("Displacement ", s, r), ok[int](t)(allocate.Displacement(s.wishes, r)), displacementOf(s.wishes, r))
		isList(t, fmt.Sprint("Totals ", s, r), ok[[]allocate.Total](t)(allocate.Totals(s.wishes, r)), totalsOf(s.wishes, r))
	}
	is(t, fmt.Sprint("there are some of each: ", full), full > 100 && full < 1200, true)
}

// P6.2: the movements of granted wishes in order: by moments, then by kinds, then by names.
func TestPlaced(t *testing.T) {
	l := list(
		wish("c", kind("D"), on(2, 3, 127)),
		wish("b", kind("D"), on(3, 3, 127), in("t")),
		wish("a", on(2, 4, 127), with(func(q *api.Request) { q.Seats, q.Size, q.Noise = 7, 8, 9 })),
		wish("d", on(2, 9, 127)),
		wish("B", kind("D"), on(3, 3, 127)),
		wish("e", on(2, 2, 64)),
	)
	move := func(day, minute int, kind, name string) api.Movement {
		return api.Movement{Moment: 1440*day + minute, Kind: kind, Name: name}
	}
	a := func(day int) api.Movement {
		return changed(move(day, 610, "A", "a"), func(m *api.Movement) { m.Seats, m.Size, m.Noise = 7, 8, 9 })
	}
	b := changed(move(3, 610, "D", "b"), func(m *api.Movement) { m.Terminal = "t" })
	isList(t, "Placed", ok[[]api.Movement](t)(allocate.Placed(l, results(l, 610, 610, 610, -1, 610, 610))), list(
		a(2), move(2, 610, "D", "c"),
		a(3), move(3, 610, "D", "B"), b, move(3, 610, "D", "c"),
		a(4),
	))
	isList(t, "Placed at other minutes", ok[[]api.Movement](t)(allocate.Placed(l[:2], results(l[:2], 630, 590))), list(
		move(2, 630, "D", "c"), changed(b, func(m *api.Movement) { m.Moment -= 20 }), move(3, 630, "D", "c"),
	))
	isList(t, "Placed of refused wishes", ok[[]api.Movement](t)(allocate.Placed(l, refusals(l))), nil)
	isList(t, "Placed of nothing", ok[[]api.Movement](t)(allocate.Placed(nil, nil)), nil)
}

// P6.2: displacements count the movements of granted wishes.
func TestDisplacement(t *testing.T) {
	l := list(wish("a", on(2, 8, 127)), wish("b", on(2, 15, 96)), wish("c", on(2, 2, 64)), wish("d"))
	for _, x := range []struct {
		minutes []int
		want    int
	}{
		{list(610, 610, 610, 610), 0},
		{list(-1, -1, -1, -1), 0},
		{list(590, 610, 610, 610), 7 * 20},
		{list(670, 610, 610, 610), 7 * 60},
		{list(590, 650, 670, 630), 7*20 + 4*40 + 20},
		{list(-1, 650, 670, 590), 4*40 + 20},
	} {
		is(t, fmt.Sprint("Displacement ", x.minutes), ok[int](t)(allocate.Displacement(l, results(l, x.minutes...))), x.want)
	}
	is(t, "Displacement of nothing", ok[int](t)(allocate.Displacement(nil, nil)), 0)
	p := pair()
	is(t, "Displacement of linked wishes", ok[int](t)(allocate.Displacement(p, results(p, 590, 630))), 40)
}

func total(carrier string, asked, granted, displaced int) allocate.Total {
	return allocate.Total{Carrier: carrier, Asked: asked, Granted: granted, Displaced: displaced}
}

// P6.2: the totals of carriers, in the order of their bytes.
func TestTotals(t *testing.T) {
	x, y := three(), results(three(), 610, 590, 670)
	isList(t, "the example", ok[[]allocate.Total](t)(allocate.Totals(x, y)), list(total("x", 2, 2, 60), total("y", 1, 1, 20)))
	l := list(wish("a", of("b"), on(2, 8, 127)), wish("b", of("a1")), wish("c", of("B"), on(2, 3, 127)), wish("d", of("b")), wish("e", of("a"), on(2, 2, 64)), wish("f", of("B")), wish("g", of("a1")))
	isList(t, "carriers in order", ok[[]allocate.Total](t)(allocate.Totals(l, results(l, 590, 610, -1, -1, 610, 650, 570+20))), list(
		total("B", 3, 1, 40),
		total("a", 0, 0, 0),
		total("a1", 2, 2, 20),
		total("b", 8, 7, 140),
	))
	isList(t, "all refused", ok[[]allocate.Total](t)(allocate.Totals(l, refusals(l))), list(total("B", 3, 0, 0), total("a", 0, 0, 0), total("a1", 2, 0, 0), total("b", 8, 0, 0)))
	isList(t, "nothing", ok[[]allocate.Total](t)(allocate.Totals(nil, nil)), nil)
	many := wishes(64)
	for i := range many {
		many[i].Request.Carrier = fmt.Sprintf("k%02d", 63-i)
	}
	totals := ok[[]allocate.Total](t)(allocate.Totals(many, refusals(many)))
	is(t, "64 carriers", len(totals), 64)
	is(t, "64 carriers ascend", slices.IsSortedFunc(totals, func(a, b allocate.Total) int { return slices.Compare([]byte(a.Carrier), []byte(b.Carrier)) }), true)
}
