package trade_test

import (
	"fmt"
	"slices"

	"turnround/api"
	"turnround/capacity"
	"turnround/trade"
)

var (
	someNames    = []string{"p", "q", "r", "s", "t", "u"}
	someCarriers = []string{"ab", "cd", "ef", "gh"}
)

// someRequest is a request of a few days with a day of its period.
func (x *noise) someRequest(name string) api.Request {
	for {
		from := 8900 + x.next(5)
		p := api.Period{From: from, To: from + x.next(7), Days: pick(x, 127, 1+x.next(127))}
		if len(daysOf(p)) > 0 {
			return request(name, pick(x, someCarriers...), pick(x, 0, 600, 610, 640, 660, 1439), kind(pick(x, "A", "D")), in(pick(x, "", "t")), on(p.From, p.To, p.Days))
		}
	}
}

// someSlot is a slot with some leases and shares.
func (x *noise) someSlot(name string) trade.Slot {
	s := slot(x.someRequest(name), held(pick(x, someCarriers...)))
	others := slices.DeleteFunc(slices.Clone(someCarriers), func(carrier string) bool { return carrier == s.Holder })
	others = append(others, "ij", "kl")
	if x.next(2) == 0 {
		for day := s.Request.Period.From + x.next(3); day <= s.Request.Period.To; day += 1 + x.next(3) {
			to := min(day+x.next(3), s.Request.Period.To)
			s.Leases = append(s.Leases, lease(pick(x, others...), day, to))
			day = to
		}
	}
	for _, carrier := range others {
		if x.next(3) == 0 && len(s.Shares) < 4 {
			s.Shares = append(s.Shares, carrier)
		}
	}
	return s
}

// someBook is a small book; in some there are as many slots, or wishes, as there can be.
func (x *noise) someBook() trade.Book {
	var b trade.Book
	for _, name := range someNames {
		switch x.next(4) {
		case 0, 1:
			b.Slots = append(b.Slots, x.someSlot(name))
		case 2:
			b.Waiting = append(b.Waiting, wish(x.someRequest(name), x.next(3)))
		}
	}
	if x.next(20) == 0 {
		b.Slots = append(b.Slots, slots(64-len(b.Slots))...)
	}
	if x.next(20) == 0 {
		b.Waiting = append(b.Waiting, wishes(64-len(b.Waiting))...)
	}
	for i := range b.Slots {
		j := x.next(i + 1)
		b.Slots[i], b.Slots[j] = b.Slots[j], b.Slots[i]
	}
	slices.SortFunc(b.Waiting, func(v, w trade.Wish) int {
		if isBefore(v, w) {
			return -1
		}
		return 1
	})
	return b
}

func (x *noise) someLimit(name string) capacity.Limit {
	from := x.next(1440)
	return hour(
		named(name), ofKind(pick(x, "T", "T", "A", "D")), ofTerminal(pick(x, "", "", "t")), lasting(pick(x, 1, 20, 60, 100, 1440)),
		every(pick(x, 10, 30, 60, 720), pick(x, 0, from), pick(x, from, 1439)), onDays(8899+x.next(5), 8904+x.next(10), pick(x, 127, 1+x.next(127))), atMost(pick(x, 0, 1, 1, 2, 3)),
	)
}

func (x *noise) someLimits() []capacity.Limit {
	var limits []capacity.Limit
	for i := range x.next(4) {
		limits = append(limits, x.someLimit(fmt.Sprint("l", i)))
	}
	return limits
}

// someText is mostly a name.
func (x *noise) someText(names ...string) string {
	if x.next(30) == 0 {
		return pick(x, noNames...)
	}
	return pick(x, names...)
}

// someNumber is mostly one from the least to the most one.
func (x *noise) someNumber(least, most int) int {
	if x.next(30) == 0 {
		return pick(x, -1, 1440, 100000)
	}
	return least + x.next(most-least+1)
}

func (x *noise) someSlots() []string {
	names := slices.Clone(someNames)
	var some []string
	for range x.next(5) {
		i := x.next(len(names))
		some = append(some, names[i])
		if x.next(20) > 0 {
			names = slices.Delete(names, i, i+1)
		}
	}
	if x.next(30) == 0 {
		some = slices.Repeat(append(some, "p"), 9)
	}
	return some
}

// someArguments has arguments of all functions that are mostly without an error.
func (x *noise) someArguments() arguments {
	b := x.someBook()
	a := arguments{
		limits: x.someLimits(), b: b, q: x.someRequest(x.someText(append(someNames, "v", "w")...)), carrier: x.someText(someCarriers...),
		slot: x.someText(someNames...), other: x.someText(append(someCarriers, someNames...)...),
		day: x.someNumber(8899, 8911), minute: x.someNumber(0, 1439), slots: x.someSlots(),
	}
	if i := indexOf(b, a.slot); i >= 0 && x.next(5) > 0 {
		a.carrier = b.Slots[i].Holder
	}
	if x.next(3) > 0 {
		a.minute = pick(x, 0, 600, 610, 630, 1439)
	}
	if x.next(20) == 0 {
		a.q.Period.Days = x.next(3)
	}
	a.w = wish(a.q, x.someNumber(0, 3))
	from := x.someNumber(8899, 8908)
	a.l = lease(x.someText(append(someCarriers, "ij")...), from, from+x.next(4)-x.next(2))
	a.event = x.someEvent(a)
	switch x.next(60) {
	case 0:
		a.b = pick(x, badBooks()...).value
	case 1:
		a.limits = pick(x, badLimits()...).value
	}
	return a
}

// someEvent is an event for arguments that has mostly its form.
func (x *noise) someEvent(a arguments) api.Event {
	e := pick(x, eventsOf(a)...)
	e.Number = x.someNumber(1, 1000)
	switch x.next(40) {
	case 0:
		e.Kind = pick(x, "", "sell", "Hold", "hold ", "serve")
	case 1:
		e.Names = append(e.Names, "ab")
	case 2:
		e.Values = append(e.Values, 5)
	case 3:
		e.Names = e.Names[:max(0, len(e.Names)-1)]
	case 4:
		e.Values = e.Values[:max(0, len(e.Values)-1)]
	case 5:
		e.Text = pick(x, " ", "x", "\x00")
	}
	return e
}

// eventsOf has the events for all acts with some arguments, with the number 1.
func eventsOf(a arguments) []api.Event {
	event := func(kind string, names []string, values ...int) api.Event {
		return api.Event{Number: 1, Kind: kind, Names: names, Values: values}
	}
	asked := func(q api.Request) ([]string, []int) {
		return list(q.Name, q.Carrier, q.Kind, q.Terminal, q.Partner), list(q.Period.From, q.Period.To, q.Period.Days, q.Minute, q.Seats, q.Size, q.Noise)
	}
	names, values := asked(a.q)
	waitNames, waitValues := asked(a.w.Request)
	return list(
		event("hold", names, values...),
		event("back", list(a.carrier, a.slot), a.day),
		event("recall", list(a.carrier, a.slot), a.day),
		event("swap", list(a.slot, a.other)),
		event("ring", slices.Clone(a.slots)),
		event("transfer", list(a.carrier, a.slot, a.other)),
		event("lend", list(a.carrier, a.slot, a.l.Carrier), a.l.From, a.l.To),
		event("share", list(a.carrier, a.slot, a.other)),
		event("retime", list(a.carrier, a.slot), a.minute),
		event("wait", waitNames, append(waitValues, a.w.Rank)...),
		event("serve", nil),
	)
}
