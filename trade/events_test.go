package trade_test

import (
	"fmt"
	"math"
	"slices"
	"testing"

	"turnround/api"
	"turnround/capacity"
	"turnround/trade"
)

// event is an event with a kind and names, and values with changes.
func event(kind string, names []string, values ...int) api.Event {
	return api.Event{Number: 1, Kind: kind, Names: names, Values: values}
}

// holdEvent is an event of the kind hold for p of the chapter's examples.
func holdEvent() api.Event {
	return event("hold", list("p", "ab", "A", "", "far"), 8900, 8909, 127, 600, 100, 4, 0)
}

// numbered returns events with the numbers 1, 2, ..
func numbered(events ...api.Event) []api.Event {
	all := slices.Clone(events)
	for i := range all {
		all[i].Number = i + 1
	}
	return all
}

// P8.5: each event does its act, with its names and values in their order.
func TestApply(t *testing.T) {
	limits := list(hour())
	b := busy()
	// The values are all different, so that none can be taken for another one.
	full := request("z", "x", 800, kind("D"), in("t"), on(8901, 8912, 63), func(q *api.Request) { q.Partner, q.Seats, q.Size, q.Noise = "y", 150, 5, 6 })
	held := copyBook(b)
	held.Slots = append(held.Slots, slot(full))
	longer := copyBook(b)
	longer.Waiting = slices.Insert(longer.Waiting, 1, wish(full, 4))
	names := list("z", "x", "D", "t", "y")
	for _, x := range []struct {
		what string
		e    api.Event
		want trade.Book
	}{
		{"hold", event("hold", names, 8901, 8912, 63, 800, 150, 5, 6), held},
		{"wait", event("wait", names, 8901, 8912, 63, 800, 150, 5, 6, 4), longer},
		{"back", event("back", list("ab", "t"), 8904), changedSlot(b, "t", asked(on(8900, 8903, 127)), leased(lease("gh", 8902, 8903)))},
		{"recall", event("recall", list("ab", "t"), 8904), changedSlot(b, "t", leased(lease("gh", 8902, 8903), lease("ef", 8907, 8907)))},
		{"swap", event("swap", list("p", "q")), changedSlot(changedSlot(b, "p", held2("cd")), "q", held2("ab"))},
		{"ring of two", event("ring", list("p", "s")), changedSlot(changedSlot(b, "p", held2("ef")), "s", held2("ab"))},
		{"ring of three", event("ring", list("p", "q", "s")), changedSlot(changedSlot(changedSlot(b, "p", held2("ef")), "q", held2("ab")), "s", held2("cd"))},
		{"transfer", event("transfer", list("ab", "p", "zz")), changedSlot(b, "p", held2("zz"))},
		{"lend", event("lend", list("ab", "p", "zz"), 8903, 8905), changedSlot(b, "p", leased(lease("zz", 8903, 8905)))},
		{"share", event("share", list("ab", "p", "zz")), changedSlot(b, "p", shared("gh", "cd", "zz"))},
		{"retime", event("retime", list("ab", "p"), 630), changedSlot(b, "p", asked(func(q *api.Request) { q.Minute = 630 }))},
		{"serve, and nobody fits", event("serve", nil), b},
		{"the last number", changed(event("serve", nil), func(e *api.Event) { e.Number = 1000 }), b},
		{"empty lists", api.Event{Number: 2, Kind: "serve", Names: []string{}, Values: []int{}}, b},
	} {
		got := ok[trade.Book](t)(trade.Apply(limits, b, x.e))
		isBook(t, "Apply "+x.what, got, x.want)
		wanted, _ := apply(limits, b, x.e)
		isBook(t, "the model: "+x.what, wanted, x.want)
	}
	two := waiting(book(p()), wish(r(), 5), wish(request("v", "ab", 600), 6))
	isBook(t, "serve", ok[trade.Book](t)(trade.Apply(limits, two, event("serve", nil))), waiting(book(p(), slot(r())), wish(request("v", "ab", 600), 6)))
	isBook(t, "hold in an empty book", ok[trade.Book](t)(trade.Apply(nil, trade.Book{}, holdEvent())), book(p()))
}

// held2 is for another holder, for whom a slot is not shared.
func held2(carrier string) func(*trade.Slot) {
	return func(s *trade.Slot) { s.Holder, s.Shares = carrier, nil }
}

// P8.5: the errors of an event, in their order, before those of its act.
func TestErrorsOfEvents(t *testing.T) {
	limits, b := list(hour()), book(p(), q(), s())
	refused := func(what string, e api.Event, want api.Errno) {
		t.Helper()
		isError(t, "Apply: "+what, ofBook(trade.Apply(limits, b, e)), want)
		_, modelled := apply(limits, b, e)
		is(t, "the model: "+what, modelled, want)
	}
	for _, n := range []int{math.MinInt, -1, 0, 1001, math.MaxInt} {
		refused(fmt.Sprint("the number ", n), changed(event("serve", nil), func(e *api.Event) { e.Number = n }), api.ErrRange)
		refused(fmt.Sprint("nothing, and the number ", n), api.Event{Number: n, Kind: "sell", Text: "x"}, api.ErrRange)
	}
	for _, kind := range []string{"", "sell", "Hold", "HOLD", "hold ", " hold", "holds", "hol", "\x00", "serve\n"} {
		refused("the kind "+kind, changed(holdEvent(), func(e *api.Event) { e.Kind = kind }), api.ErrKind)
		refused("a text, no names, and the kind "+kind, api.Event{Number: 5, Kind: kind, Text: "x"}, api.ErrKind)
	}
	for _, good := range eventsOf(example()) {
		x := good
		for range 3 {
			x.Names = append(slices.Clone(x.Names), "s")
			if good.Kind != "ring" {
				refused("more names of "+good.Kind, x, api.ErrShape)
				refused("a text, and more names of "+good.Kind, changed(x, func(e *api.Event) { e.Text = "x" }), api.ErrShape)
			}
		}
		for n := range good.Names {
			if good.Kind != "ring" {
				refused(fmt.Sprint("too few names of ", good.Kind), changed(good, func(e *api.Event) { e.Names = e.Names[:n] }), api.ErrShape)
			}
		}
		x = good
		for range 3 {
			x.Values = append(slices.Clone(x.Values), 5)
			refused("more values of "+good.Kind, x, api.ErrShape)
		}
		for n := range good.Values {
			refused(fmt.Sprint("too few values of ", good.Kind), changed(good, func(e *api.Event) { e.Values = e.Values[:n] }), api.ErrShape)
		}
		for _, text := range []string{" ", "x", "\x00", "\xff"} {
			refused("a text of "+good.Kind, changed(good, func(e *api.Event) { e.Text = text }), api.ErrForm)
			broken := changed(good, func(e *api.Event) { e.Names, e.Text = slices.Repeat([]string{"1"}, len(e.Names)), text })
			refused("a text and no names of "+good.Kind, broken, api.ErrForm)
		}
	}
	refused("a ring of nothing", event("ring", nil), api.ErrShort)
	refused("a ring of one", event("ring", list("p")), api.ErrShort)
	refused("a ring of nine", event("ring", slices.Repeat(list("p"), 9)), api.ErrMany)
	refused("a ring with a value", event("ring", nil, 5), api.ErrShape)
	refused("a ring with a text", changed(event("ring", nil), func(e *api.Event) { e.Text = "x" }), api.ErrForm)
	isFirstFault(t, "Apply", changed(example(), func(x *arguments) {
		x.event = event("hold", list("z", "ab", "A", "", "far"), 8900, 8909, 127, 720, 100, 4, 0)
	}),
		fault{"no number", api.ErrRange, func(x *arguments) { x.event.Number = 0 }},
		fault{"no kind", api.ErrKind, func(x *arguments) { x.event.Kind = "sell" }},
		fault{"too few values", api.ErrShape, func(x *arguments) { x.event.Values = x.event.Values[:6] }},
		fault{"a text", api.ErrForm, func(x *arguments) { x.event.Text = "x" }},
		fault{"a name that is none", api.ErrName, func(x *arguments) { x.event.Names = list("1", "ab", "A", "", "far") }},
		fault{"no kind of movements", api.ErrKind, func(x *arguments) { x.event.Names = list("z", "ab", "T", "", "far") }},
		fault{"no minute", api.ErrRange, func(x *arguments) { x.event.Values = list(8900, 8909, 127, 1440, 100, 4, 0) }},
		fault{"no day", api.ErrEmpty, func(x *arguments) { x.event.Values = list(8900, 8900, 64, 600, 100, 4, 0) }},
		fault{"the name of a slot", api.ErrTwice, func(x *arguments) { x.event.Names = list("q", "ab", "A", "", "far") }},
		fault{"no room", api.ErrFull, func(x *arguments) { x.limits = list(hour(atMost(0))) }},
	)
}

// P8.5: the errors of an act are those of its event.
func TestErrorsOfActs(t *testing.T) {
	x := noise(51)
	for range 1500 {
		a := x.someArguments()
		acts := []string{"Hold", "Back", "Recall", "Swap", "Ring", "Transfer", "Lend", "Share", "Retime", "Wait", "Serve"}
		for i, e := range eventsOf(a) {
			want := functionOf(acts[i]).call(a)
			if limits := capacity.CheckLimits(a.limits); limits != api.OK {
				want = ofError(limits)
			}
			want.served = nil
			isOutcome(t, fmt.Sprint("Apply ", e, " to ", a.b), ofBook(trade.Apply(a.limits, a.b, e)), want)
		}
		if t.Failed() {
			return
		}
	}
	isModel(t, "Apply", 52, api.ErrRange, api.ErrKind, api.ErrShape, api.ErrForm, api.ErrName, api.ErrUnknown, api.ErrHolder, api.ErrState, api.ErrOutside, api.ErrClash, api.ErrNone, api.ErrShort, api.ErrTwice, api.ErrFull)
}

// P8.5: the book after all events.
func TestReplay(t *testing.T) {
	limits := list(hour())
	isOutcome(t, "no events", ofReplay(trade.Replay(limits, nil)), outcome{})
	events := numbered(
		holdEvent(),
		event("hold", list("q", "cd", "A", "", "far"), 8900, 8909, 127, 610, 100, 4, 0),
		event("wait", list("r", "ef", "A", "", "far"), 8900, 8909, 127, 620, 100, 4, 0, 5),
		event("serve", nil),
		event("share", list("cd", "q", "gh")),
		event("lend", list("ab", "p", "gh"), 8902, 8904),
		event("recall", list("ab", "p"), 8903),
		event("back", list("ab", "p"), 8902),
		event("serve", nil),
		event("recall", list("ab", "p"), 8902),
		event("back", list("ab", "p"), 8900),
		event("serve", nil),
		event("swap", list("q", "r")),
		event("transfer", list("cd", "r", "ab")),
		event("retime", list("ab", "r"), 700),
		event("ring", list("r", "q")),
	)
	at := func(minute int, holder string, s trade.Slot) trade.Slot {
		return changed(s, asked(func(q *api.Request) { q.Minute = minute }), held(holder))
	}
	r5, shortP := wish(r(), 5), p(asked(on(8900, 8901, 127)))
	for n, want := range []trade.Book{
		{}, book(p()), book(p(), q()), waiting(book(p(), q()), r5), waiting(book(p(), q()), r5), waiting(book(p(), q(shared("gh"))), r5),
		waiting(book(p(leased(lease("gh", 8902, 8904))), q(shared("gh"))), r5), waiting(book(p(leased(lease("gh", 8902, 8902))), q(shared("gh"))), r5),
		waiting(book(shortP, q(shared("gh"))), r5), waiting(book(shortP, q(shared("gh"))), r5),
	} {
		isOutcome(t, fmt.Sprint("after ", n, " events"), ofReplay(trade.Replay(limits, events[:n])), outcome{b: want})
	}
	isOutcome(t, "an event that has an error", ofReplay(trade.Replay(limits, events)), outcome{index: 9, e: api.ErrNone})
	events = numbered(slices.Delete(events, 9, 10)...)
	for n, want := range []trade.Book{
		waiting(book(q(shared("gh"))), r5), book(q(shared("gh")), slot(r())), book(q(held("ef")), slot(r(), held("cd"))), book(q(held("ef")), slot(r(), held("ab"))),
		book(q(held("ef")), at(700, "ab", slot(r()))), book(q(held("ab")), at(700, "ef", slot(r()))),
	} {
		isOutcome(t, fmt.Sprint("after ", n+10, " events"), ofReplay(trade.Replay(limits, events[:n+10])), outcome{b: want})
	}
}

// P8.5: the first event with an error, by its number or by itself.
func TestErrorsOfReplays(t *testing.T) {
	limits := list(hour())
	refused := func(what string, events []api.Event, at int, want api.Errno) {
		t.Helper()
		isOutcome(t, "Replay: "+what, ofReplay(trade.Replay(limits, events)), outcome{index: at, e: want})
		b, index, e := replay(limits, events)
		isOutcome(t, "the model: "+what, ofReplay(b, index, e), outcome{index: at, e: want})
	}
	serves := func(n int) []api.Event { return numbered(slices.Repeat(list(event("serve", nil)), n)...) }
	isOutcome(t, "1000 events", ofReplay(trade.Replay(limits, serves(1000))), outcome{})
	refused("1001 events", serves(1001), 0, api.ErrMany)
	refused("1001 empty events", make([]api.Event, 1001), 0, api.ErrMany)
	refused("the last one of 1000", append(serves(999), event("serve", nil)), 999, api.ErrOrder)
	refused("the last one of 1000 by itself", numbered(append(serves(999), event("sell", nil))...), 999, api.ErrKind)
	for _, n := range []int{math.MinInt, -1, 0, 2, 3, 1000, 1001, math.MaxInt} {
		refused(fmt.Sprint("the number ", n), list(changed(holdEvent(), func(e *api.Event) { e.Number = n })), 0, api.ErrOrder)
		refused(fmt.Sprint("the number and more ", n), list(api.Event{Number: n, Kind: "sell", Text: "x"}, holdEvent()), 0, api.ErrOrder)
	}
	refused("the same number again", list(holdEvent(), holdEvent()), 1, api.ErrOrder)
	refused("a number left out", list(holdEvent(), changed(event("serve", nil), func(e *api.Event) { e.Number = 3 })), 1, api.ErrOrder)
	refused("no kind", numbered(holdEvent(), event("sell", nil), event("serve", nil)), 1, api.ErrKind)
	refused("no shape", numbered(holdEvent(), event("serve", nil, 1)), 1, api.ErrShape)
	refused("a text", numbered(holdEvent(), changed(event("serve", nil), func(e *api.Event) { e.Text = "x" })), 1, api.ErrForm)
	refused("the same slot again", numbered(holdEvent(), event("serve", nil), holdEvent()), 2, api.ErrTwice)
	refused("not the holder", numbered(holdEvent(), event("back", list("cd", "p"), 8905)), 1, api.ErrHolder)
	refused("a slot that is not there yet", numbered(event("back", list("ab", "p"), 8905), holdEvent()), 0, api.ErrUnknown)
	q, r := holdEvent(), holdEvent()
	q.Names, r.Names = list("q", "ab", "A", "", "far"), list("r", "ab", "A", "", "far")
	refused("no room", numbered(holdEvent(), q, r), 2, api.ErrFull)
	for _, x := range badLimits() {
		for _, events := range [][]api.Event{nil, list(holdEvent()), list(holdEvent(), holdEvent()), make([]api.Event, 1001)} {
			isError(t, "Replay with "+x.what, ofReplay(trade.Replay(x.value, events)), x.e)
		}
	}
}

// P8.5: replays of random events, of which the last one may have an error.
func TestReplayModel(t *testing.T) {
	x := noise(53)
	seen := map[api.Errno]int{}
	for range 600 {
		limits := x.someLimits()
		events := x.someEvents(limits, 5+x.next(40))
		if x.next(2) == 0 {
			last := x.someEvent(x.someArguments())
			last.Number = len(events) + 1 - x.next(8)/7
			events = append(events, last)
		}
		b, index, e := replay(limits, events)
		seen[e]++
		isOutcome(t, fmt.Sprint("Replay ", events), ofReplay(trade.Replay(limits, events)), outcome{b: b, index: index, e: e})
	}
	is(t, fmt.Sprint("there are some of each: ", seen), len(seen) > 8 && seen[api.OK] > 100 && seen[api.ErrOrder] > 5, true)
}

// someEvents has n events that a book accepts, one after the other.
func (x *noise) someEvents(limits []capacity.Limit, n int) []api.Event {
	var events []api.Event
	var b trade.Book
	for len(events) < n {
		e := x.nextEvent(b, len(events)+1)
		if after, err := apply(limits, b, e); err == api.OK {
			events, b = append(events, e), after
		}
	}
	return events
}

// nextEvent has an event with a number that a book may accept.
func (x *noise) nextEvent(b trade.Book, number int) api.Event {
	a := arguments{
		b: b, q: x.someRequest(pick(x, someNames...)), carrier: pick(x, someCarriers...), slot: pick(x, someNames...), other: pick(x, append(someNames, someCarriers...)...),
		day: 8900 + x.next(10), minute: x.next(1440), slots: x.someSlots(), l: lease(pick(x, someCarriers...), 8900+x.next(10), 8900+x.next(10)),
	}
	if i := x.next(len(b.Slots) + 1); i < len(b.Slots) {
		a.slot, a.carrier = b.Slots[i].Request.Name, b.Slots[i].Holder
	}
	a.w = wish(a.q, x.next(3))
	e := pick(x, eventsOf(a)...)
	e.Number = number
	return e
}
