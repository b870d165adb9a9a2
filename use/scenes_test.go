package use_test

import (
	"slices"

	"turnround/api"
	"turnround/calendar"
	"turnround/use"
)

var someNames = []string{"x", "x", "y", "Y"}

// someRule is a rule with small tolerances and short notices.
func (x *noise) someRule() use.Rule {
	var some []string
	for _, cause := range list("strike", "storm", "snow") {
		if x.next(2) == 0 {
			some = append(some, cause)
		}
	}
	return use.Rule{
		Before: pick(x, 0, 5, 10, 15, 30, 720), After: pick(x, 0, 5, 10, 15, 30, 720), Notice: pick(x, 0, 0, 1, 2, 3, 365), Share: pick(x, 1, 50, 80, 100, 1+x.next(100)),
		Causes: some, Off: pick(x, 0, 5, 10, 20, 720), Run: pick(x, 1, 1, 2, 2, 3, 4),
	}
}

// someMoment is a moment of one of the first days, close to others.
func (x *noise) someMoment() int {
	return 1440*x.next(8) + pick(x, 0, 600, 600, 1430) + pick(x, 0, 5*x.next(8), x.next(40))
}

// someSlots are slots in no order, some of them equal.
func (x *noise) someSlots() []use.Slot {
	var all []use.Slot
	for range x.next(16) {
		s := slot(pick(x, someNames...), x.someMoment(), pick(x, "A", "A", "D"))
		all = append(all, slices.Repeat(list(s), 1+x.next(5)/4)...)
	}
	return shuffled(x, all)
}

// someSlotsOf are the slots of a few series.
func (x *noise) someSlotsOf() []use.Slot {
	var all []use.Slot
	for range 1 + x.next(3) {
		p := x.somePeriod(0)
		all = append(all, slotsOf(pick(x, someNames...), pick(x, "A", "D"), p, pick(x, 0, 600, 610, 1439))...)
	}
	if x.next(2) == 0 {
		return shuffled(x, all)
	}
	return all
}

// somePeriod is a period of some days near a day.
func (x *noise) somePeriod(day int) api.Period {
	from := day + x.next(4)
	return on(from, from+x.next(12), pick(x, 127, 127, 1+x.next(127)))
}

// someRecords are actual movements, many of them close to slots.
func (x *noise) someRecords(slots []use.Slot) []use.Slot {
	all := x.someSlots()
	for _, s := range slots {
		if x.next(4) > 0 {
			s.Moment = max(0, s.Moment+pick(x, 0, 5, -5, x.next(61)-30))
			all = append(all, s)
		}
	}
	return shuffled(x, all)
}

// someNotes are records, many of them about slots.
func (x *noise) someNotes(slots []use.Slot) []use.Note {
	var all []use.Note
	for _, s := range x.someRecords(slots) {
		all = append(all, fly(s.Name, s.Moment, s.Kind))
	}
	first := 0
	if len(slots) > 0 {
		first = max(0, slots[x.next(len(slots))].Moment/1440-2)
	}
	for range x.next(6) {
		name, from := pick(x, someNames...), first+x.next(6)
		to := from + x.next(3)
		all = append(all, pick(x,
			back(name, from, to, max(0, from-x.next(4))), back(name, from, to, to), cancel(name, from, to, pick(x, "strike", "storm", "snow")), weather(from, to),
		))
	}
	return shuffled(x, all)
}

// someMatches are pairs that are mostly accepted.
func (x *noise) someMatches(r use.Rule, slots, records []use.Slot) []use.Match {
	var some []use.Match
	for _, m := range matches(r, slots, records) {
		if x.next(4) > 0 {
			some = append(some, m)
		}
	}
	if len(some) > 0 && x.next(2) == 0 {
		m := &some[x.next(len(some))]
		switch x.next(4) {
		case 0:
			m.Slot = x.next(len(slots)+2) - 1
		case 1:
			m.Record = x.next(len(records)+2) - 1
		case 2:
			m.Record = some[x.next(len(some))].Record
		case 3:
			some = append(some, *m)
		}
	}
	return some
}

// someCover is mostly a cover.
func (x *noise) someCover(r use.Rule, slots, records []use.Slot) use.Cover {
	c, _ := use.Covered(r, slots, records)
	if x.next(2) == 0 {
		return c
	}
	indices := &c.Slots
	if x.next(2) == 0 {
		indices = &c.Records
	}
	switch n := len(*indices); {
	case n == 0 || x.next(5) == 0:
		*indices = append(*indices, x.next(20)-1)
	case x.next(3) == 0:
		*indices = slices.Delete(*indices, n-1, n)
	default:
		(*indices)[x.next(n)] = x.next(20) - 1
	}
	return c
}

// someRequests are requests with different names, in a summer.
func (x *noise) someRequests(first int) []api.Request {
	var all []api.Request
	for _, name := range shuffled(x, list("x", "y", "Y", "z"))[:x.next(5)] {
		all = append(all, request(name, pick(x, "A", "D"), x.somePeriod(first), pick(x, 0, 600, 1439)))
	}
	return all
}

// spoil gives one of some arguments an error.
func (x *noise) spoil(a *arguments, some ...string) {
	pick(x, faultsOf(pick(x, some...))...).change(a)
}

// someArguments has arguments of all functions, each of them without an error.
func (x *noise) someArguments() arguments {
	a := arguments{r: x.someRule(), slots: x.someSlots(), name: pick(x, names...), kind: pick(x, "A", "D"), minute: x.next(1440)}
	if x.next(2) == 0 {
		a.slots = x.someSlotsOf()
	}
	a.records = x.someRecords(a.slots)
	a.l = x.someNotes(a.slots)
	a.matches, a.c = x.someMatches(a.r, a.slots, a.records), x.someCover(a.r, a.slots, a.records)
	due := x.next(pick(x, 10, 513))
	a.x = use.Ratio{Flown: x.next(due + 1), Due: due}
	a.s = calendar.Season{Year: pick(x, 2024, 2025, 2026, 2027, 2028), Kind: pick(x, "S", "S", "S", "W")}
	// In the middle, at the end and at the beginning of the season S of 2026, and before all seasons.
	a.p = x.somePeriod(pick(x, 9594, 9780, 9790, 9578, 9584, 80))
	if x.next(2) == 0 {
		return x.withRequests(a)
	}
	a.requests = x.someRequests(9594)
	return a
}

// withRequests has requests of which some keep their rights.
func (x *noise) withRequests(a arguments) arguments {
	a.requests = x.someRequests(pick(x, 9594, 9594, 9780, 9574))
	var all []use.Slot
	for _, q := range a.requests {
		all = append(all, slotsOf(q.Name, q.Kind, q.Period, q.Minute)...)
	}
	a.l = x.someNotes(all)
	return a
}
