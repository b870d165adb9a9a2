package trade_test

import (
	"fmt"
	"testing"

	"turnround/api"
	"turnround/capacity"
	"turnround/trade"
)

// P8.3: a request that fits becomes a slot at the end, which its carrier holds.
func TestHold(t *testing.T) {
	limits := list(hour())
	one := ok[trade.Book](t)(trade.Hold(limits, trade.Book{}, p().Request))
	isBook(t, "p alone", one, book(p()))
	two := ok[trade.Book](t)(trade.Hold(limits, one, q().Request))
	isBook(t, "p and q", two, book(p(), q()))
	isError(t, "r", ofBook(trade.Hold(limits, two, r())), api.ErrFull)
	isBook(t, "r with more room", ok[trade.Book](t)(trade.Hold(list(hour(atMost(3))), two, r())), book(p(), q(), slot(r())))
	isBook(t, "r without limits", ok[trade.Book](t)(trade.Hold(nil, two, r())), book(p(), q(), slot(r())))
	b := busy()
	linked := request("z", "x", 700, link("p"), in("t"), kind("D"), on(8900, 8920, 2))
	want := copyBook(b)
	want.Slots = append(want.Slots, slot(linked))
	isBook(t, "beside leases, shares and wishes", ok[trade.Book](t)(trade.Hold(limits, b, linked)), want)
	for _, q := range goodRequests() {
		isBook(t, fmt.Sprint("Hold ", q), ok[trade.Book](t)(trade.Hold(limits, book(p()), q)), book(p(), slot(q)))
	}
	for _, x := range badRequests() {
		isError(t, x.what, ofBook(trade.Hold(limits, two, x.value)), x.e)
		isError(t, "in a full book: "+x.what, ofBook(trade.Hold(limits, book(slots(64)...), x.value)), x.e)
	}
	isError(t, "the name of a slot", ofBook(trade.Hold(limits, two, request("p", "ef", 700))), api.ErrTwice)
	isError(t, "the name of a wish", ofBook(trade.Hold(limits, b, request("r", "ab", 900))), api.ErrTwice)
	isBook(t, "the name of a carrier", ok[trade.Book](t)(trade.Hold(limits, one, request("ab", "p", 700))), book(p(), slot(request("ab", "p", 700))))
	isBook(t, "the 64th slot", ok[trade.Book](t)(trade.Hold(nil, book(slots(63)...), r())), book(append(slots(63), slot(r()))...))
	isError(t, "the 65th slot", ofBook(trade.Hold(nil, book(slots(64)...), r())), api.ErrMany)
	isError(t, "a slot again in a full book", ofBook(trade.Hold(nil, book(slots(64)...), slots(1)[0].Request)), api.ErrTwice)
	full := fault{"no room", api.ErrFull, func(x *arguments) { x.limits = list(hour(atMost(0))) }}
	isFirstFault(t, "Hold", example(),
		fault{"a name that is none", api.ErrName, func(x *arguments) { x.q.Name = "1" }},
		fault{"no kind", api.ErrKind, func(x *arguments) { x.q.Kind = "" }},
		fault{"a link to itself", api.ErrPair, func(x *arguments) { x.q.Link = x.q.Name }},
		fault{"no period", api.ErrOrder, func(x *arguments) { x.q.Period.To = 8800 }},
		fault{"no size", api.ErrRange, func(x *arguments) { x.q.Size = 0 }},
		fault{"no day", api.ErrEmpty, func(x *arguments) { x.q.Period = api.Period{From: 8900, To: 8900, Days: 64} }},
		fault{"the name of a slot", api.ErrTwice, func(x *arguments) { x.q.Name = "s" }},
		fault{"64 slots", api.ErrMany, func(x *arguments) { x.b.Slots = append(slots(61), p(), q(), s()) }},
		full,
	)
	isModel(t, "Hold", 31, api.ErrName, api.ErrEmpty, api.ErrTwice, api.ErrFull)
}

// P8.3: whether a request fits depends on each window of each of its days.
func TestRoomToHold(t *testing.T) {
	days := []func(*capacity.Limit){every(10, 0, 1430), lasting(30)}
	b := book(slot(request("a", "ab", 600, on(8905, 8905, 127))), slot(request("b", "ab", 620, kind("D"), in("t"))))
	for _, x := range []struct {
		what  string
		limit capacity.Limit
		q     api.Request
		e     api.Errno
	}{
		{"a full window on one day", hour(days...), request("z", "ab", 601), api.ErrFull},
		{"the days before", hour(days...), request("z", "ab", 601, on(8900, 8904, 127)), api.OK},
		{"a window that begins before", hour(days...), request("z", "ab", 629), api.ErrFull},
		{"behind that window", hour(days...), request("z", "ab", 630), api.OK},
		{"in no window with both", hour(days...), request("z", "ab", 599), api.OK},
		{"before that window", hour(days...), request("z", "ab", 589), api.OK},
		{"arrivals alone", hour(append(days, ofKind("A"))...), request("z", "ab", 601), api.OK},
		{"arrivals alone, of which there may be one", hour(append(days, ofKind("A"), atMost(1))...), request("z", "ab", 601), api.ErrFull},
		{"departures beside a limit for arrivals", hour(append(days, ofKind("A"), atMost(0))...), request("z", "ab", 601, kind("D")), api.OK},
		{"another terminal", hour(append(days, ofTerminal("t"), atMost(1))...), request("z", "ab", 621), api.OK},
		{"the same terminal", hour(append(days, ofTerminal("t"), atMost(1))...), request("z", "ab", 621, in("t")), api.ErrFull},
		{"days without a window", hour(append(days, onDays(8905, 8905, 127), atMost(0))...), request("z", "ab", 601, on(8906, 8909, 127)), api.OK},
	} {
		got, e := trade.Hold(list(hour(named("wide"), atMost(9)), x.limit), b, x.q)
		if x.e == api.OK {
			isBook(t, x.what, ok[trade.Book](t)(got, e), book(append(copyBook(b).Slots, slot(x.q))...))
		} else {
			isError(t, x.what, ofBook(got, e), x.e)
		}
	}
}

// P8.3: a slot ends with the day before, and so do its leases; without a day before it is removed.
func TestBack(t *testing.T) {
	b := busy()
	until := func(to int, leases ...trade.Lease) func(*trade.Slot) {
		return func(s *trade.Slot) { s.Request.Period.To, s.Leases = to, leases }
	}
	isBook(t, "five days are left", ok[trade.Book](t)(trade.Back(b, "ab", "p", 8905)), changedSlot(b, "p", until(8904)))
	isBook(t, "from the second day on", ok[trade.Book](t)(trade.Back(b, "ab", "p", 8901)), changedSlot(b, "p", until(8900)))
	isBook(t, "from the last day on", ok[trade.Book](t)(trade.Back(b, "ab", "p", 8909)), changedSlot(b, "p", until(8908)))
	first, second := lease("gh", 8902, 8904), lease("ef", 8907, 8907)
	for _, x := range []struct {
		day  int
		want []trade.Lease
	}{
		{8909, list(first, second)},
		{8908, list(first, second)},
		{8907, list(first)},
		{8905, list(first)},
		{8904, list(lease("gh", 8902, 8903))},
		{8903, list(lease("gh", 8902, 8902))},
		{8902, nil},
		{8901, nil},
	} {
		isBook(t, fmt.Sprint("a leased slot from ", x.day), ok[trade.Book](t)(trade.Back(b, "ab", "t", x.day)), changedSlot(b, "t", until(x.day-1, x.want...)))
	}
	for _, day := range []int{0, 1, 8899, 8900} {
		left := waiting(book(b.Slots[0], b.Slots[2], b.Slots[3]), b.Waiting...)
		isBook(t, fmt.Sprint("nothing is left from ", day), ok[trade.Book](t)(trade.Back(b, "cd", "q", day)), left)
		isBook(t, fmt.Sprint("nothing is left of the last slot from ", day), ok[trade.Book](t)(trade.Back(b, "ab", "t", day)), waiting(book(b.Slots[:3]...), b.Waiting...))
		isBook(t, fmt.Sprint("nothing at all from ", day), ok[trade.Book](t)(trade.Back(book(p()), "ab", "p", day)), trade.Book{})
	}
	// Of these days, 8902 and 8909 are Thursdays.
	thursdays := book(p(asked(on(8900, 8909, 8))))
	for day := 8901; day <= 8909; day++ {
		want := changedSlot(thursdays, "p", until(day-1))
		if day <= 8902 {
			want = trade.Book{}
		}
		isBook(t, fmt.Sprint("Thursdays from ", day), ok[trade.Book](t)(trade.Back(thursdays, "ab", "p", day)), want)
	}
	zero := book(p(asked(on(0, 9, 127))))
	isBook(t, "from the day 0", ok[trade.Book](t)(trade.Back(zero, "ab", "p", 0)), trade.Book{})
	isBook(t, "from the day 1", ok[trade.Book](t)(trade.Back(zero, "ab", "p", 1)), changedSlot(zero, "p", until(0)))
	for _, day := range []int{8910, 8911, 99999} {
		isError(t, fmt.Sprint("from ", day), ofBook(trade.Back(b, "ab", "p", day)), api.ErrOutside)
	}
	for _, day := range noDays {
		isError(t, fmt.Sprint("from ", day), ofBook(trade.Back(b, "zz", "p", day)), api.ErrRange)
	}
	isError(t, "by the carrier of the request", ofBook(trade.Back(book(p(held("x"))), "ab", "p", 8905)), api.ErrHolder)
	isError(t, "by who leases it", ofBook(trade.Back(b, "gh", "t", 8903)), api.ErrHolder)
	isError(t, "a wish", ofBook(trade.Back(b, "ef", "r", 8905)), api.ErrUnknown)
	for _, s := range noNames {
		isError(t, "carrier "+s, ofBook(trade.Back(b, s, "x", -1)), api.ErrName)
	}
	isFirstFault(t, "Back", example(), noCarrier, noSlot, noDay, notHolder, fault{"a day behind the last one", api.ErrOutside, func(x *arguments) { x.day = 8910 }})
	isModel(t, "Back", 32, api.ErrName, api.ErrUnknown, api.ErrRange, api.ErrHolder, api.ErrOutside)
}

// P8.3: a slot gets another minute if it fits there beside all others.
func TestRetime(t *testing.T) {
	limits := list(hour())
	alone := book(q())
	for minute := range 1440 {
		isBook(t, fmt.Sprint("q alone at ", minute), ok[trade.Book](t)(trade.Retime(limits, alone, "cd", "q", minute)), book(q(asked(func(q *api.Request) { q.Minute = minute }))))
	}
	three := book(p(), q(), slot(request("r", "ef", 700), shared("gh"), leased(lease("gh", 8900, 8900))))
	for _, minute := range []int{0, 599, 660, 661, 700, 719, 720, 1439} {
		want := changedSlot(three, "r", asked(func(q *api.Request) { q.Minute = minute }))
		isBook(t, fmt.Sprint("r at ", minute), ok[trade.Book](t)(trade.Retime(limits, three, "ef", "r", minute)), want)
	}
	for _, minute := range []int{600, 601, 630, 659} {
		isError(t, fmt.Sprint("r at ", minute), ofBook(trade.Retime(limits, three, "ef", "r", minute)), api.ErrFull)
	}
	isBook(t, "p in its own hour", ok[trade.Book](t)(trade.Retime(limits, three, "ab", "p", 605)), changedSlot(three, "p", asked(func(q *api.Request) { q.Minute = 605 })))
	isBook(t, "p at its own minute", ok[trade.Book](t)(trade.Retime(limits, three, "ab", "p", 600)), three)
	isBook(t, "p with room for itself alone", ok[trade.Book](t)(trade.Retime(list(hour(atMost(1))), book(p(), s()), "ab", "p", 659)), changedSlot(book(p(), s()), "p", asked(func(q *api.Request) { q.Minute = 659 })))
	isError(t, "p at its own minute under another limit", ofBook(trade.Retime(list(hour(atMost(1))), three, "ab", "p", 600)), api.ErrFull)
	isError(t, "q at its own minute under no room", ofBook(trade.Retime(list(hour(atMost(0))), alone, "cd", "q", 610)), api.ErrFull)
	isBook(t, "without limits", ok[trade.Book](t)(trade.Retime(nil, three, "ef", "r", 630)), changedSlot(three, "r", asked(func(q *api.Request) { q.Minute = 630 })))
	wishes := waiting(three, wish(request("v", "ab", 600), 3), wish(request("w", "ab", 600), 3))
	isBook(t, "wishes have no movements", ok[trade.Book](t)(trade.Retime(limits, wishes, "ab", "p", 610)), changedSlot(wishes, "p", asked(func(q *api.Request) { q.Minute = 610 })))
	isError(t, "the carrier of the request", ofBook(trade.Retime(limits, book(p(held("x"))), "ab", "p", 5)), api.ErrHolder)
	isError(t, "a wish", ofBook(trade.Retime(limits, busy(), "ef", "r", 5)), api.ErrUnknown)
	for _, minute := range noMinutes {
		isError(t, fmt.Sprint("at ", minute), ofBook(trade.Retime(limits, three, "zz", "p", minute)), api.ErrRange)
	}
	for _, s := range noNames {
		isError(t, "carrier "+s, ofBook(trade.Retime(limits, three, s, "x", -1)), api.ErrName)
	}
	isFirstFault(t, "Retime", example(), noCarrier, noSlot, noMinute, notHolder, fault{"no room", api.ErrFull, func(x *arguments) { x.limits = list(hour(atMost(0))) }})
	isModel(t, "Retime", 33, api.ErrName, api.ErrUnknown, api.ErrRange, api.ErrHolder, api.ErrFull)
}
