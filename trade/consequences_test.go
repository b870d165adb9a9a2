package trade_test

import (
	"fmt"
	"slices"
	"testing"

	"turnround/api"
	"turnround/capacity"
	"turnround/trade"
)

// P8.1, P8.2, P8.3, P8.4: the chapter's examples.
func TestExamples(t *testing.T) {
	limits := list(hour())
	b := ok[trade.Book](t)(trade.Hold(limits, trade.Book{}, request("p", "ab", 600)))
	b = ok[trade.Book](t)(trade.Hold(limits, b, request("q", "cd", 610)))
	isError(t, "1: r does not fit", ofBook(trade.Hold(limits, b, r())), api.ErrFull)
	asked := ok[trade.Book](t)(trade.Wait(b, wish(r(), 5)))
	refusal := trade.Refusal{Name: "r", Limit: 0, Moment: 12816600}
	isList(t, "1: r is refused", ok[[]trade.Refusal](t)(trade.Refused(limits, asked)), list(refusal))

	shorter := ok[trade.Book](t)(trade.Back(asked, "ab", "p", 8905))
	is(t, "2: days that p has left", len(daysOf(shorter.Slots[0].Request.Period)), 5)
	isList(t, "2: r is refused still", ok[[]trade.Refusal](t)(trade.Refused(limits, shorter)), list(refusal))
	gone := ok[trade.Book](t)(trade.Back(asked, "ab", "p", 8900))
	isBook(t, "2: p is gone", gone, waiting(book(q()), wish(r(), 5)))
	isOutcome(t, "2: r is a slot", ofServed(trade.Serve(limits, gone)), outcome{b: book(q(), slot(r())), served: list("r")})

	isList(t, "3: swapped", holdersOf(ok[trade.Book](t)(trade.Swap(b, "p", "q"))), list("cd", "ab"))
	three := ok[trade.Book](t)(trade.Hold(limits, b, request("s", "ef", 700)))
	isList(t, "3: a ring", holdersOf(ok[trade.Book](t)(trade.Ring(three, list("p", "q", "s")))), list("ef", "ab", "cd"))

	lent := ok[trade.Book](t)(trade.Lend(b, "ab", "p", lease("gh", 8902, 8904)))
	is(t, "4: on 8904", ok[string](t)(trade.Operator(lent, "p", 8904)), "gh")
	is(t, "4: on 8905", ok[string](t)(trade.Operator(lent, "p", 8905)), "ab")
	isError(t, "4: another lease", ofBook(trade.Lend(lent, "ab", "p", lease("gh", 8904, 8906))), api.ErrClash)
	isError(t, "4: a swap", ofBook(trade.Swap(lent, "p", "q")), api.ErrState)
	recalled := ok[trade.Book](t)(trade.Recall(lent, "ab", "p", 8903))
	isList(t, "4: recalled", recalled.Slots[0].Leases, list(lease("gh", 8902, 8902)))

	late := ok[trade.Book](t)(trade.Hold(limits, b, request("r", "ef", 700)))
	is(t, "5: r at 660", ok[trade.Book](t)(trade.Retime(limits, late, "ef", "r", 660)).Slots[2].Request.Minute, 660)
	isError(t, "5: r at 659", ofBook(trade.Retime(limits, late, "ef", "r", 659)), api.ErrFull)
}

// walk is a book after an event that it accepted, and what was before it.
type walk struct {
	limits []capacity.Limit
	before trade.Book
	event  api.Event
	after  trade.Book
}

// someWalks visits the steps of some walks, each of which begins with an empty book; the limits change now and then.
func someWalks(t *testing.T, seed noise, yield func(what string, x *noise, w walk)) {
	t.Helper()
	x := seed
	kinds := map[string]int{}
	for range 60 {
		var b trade.Book
		limits := x.someLimits()
		for range 300 {
			if x.next(50) == 0 {
				limits = x.someLimits()
			}
			e := x.nextEvent(b, 1+x.next(1000))
			after, err := trade.Apply(limits, b, e)
			if err != api.OK {
				continue
			}
			kinds[e.Kind]++
			yield(fmt.Sprint(limits, b, e), &x, walk{limits, b, e, after})
			b = after
		}
	}
	for _, e := range eventsOf(example()) {
		is(t, fmt.Sprint("there are some events of each kind: ", kinds), kinds[e.Kind] > 20, true)
	}
}

// P8.6: a valid book stays valid in each act, and the act is that of the model.
func TestBooksStayValid(t *testing.T) {
	someWalks(t, 61, func(what string, x *noise, w walk) {
		is(t, "CheckBook after "+what, trade.CheckBook(w.after), api.OK)
		is(t, "the model after "+what, bookError(w.after), api.OK)
		want, e := apply(w.limits, w.before, w.event)
		is(t, "the model accepts it, too", e, api.OK)
		isBook(t, "the model of "+what, w.after, want)
	})
}

// P8.6: exchanges, leases and shares leave the movements as they were.
func TestMovementsStay(t *testing.T) {
	someWalks(t, 62, func(what string, x *noise, w walk) {
		before, after := ok[[]api.Movement](t)(trade.Movements(w.before)), ok[[]api.Movement](t)(trade.Movements(w.after))
		switch w.event.Kind {
		case "swap", "ring", "transfer", "lend", "recall", "share", "wait":
			isList(t, "movements after "+what, after, before)
		case "hold":
			is(t, "more movements after "+what, len(after) > len(before), true)
		case "back":
			is(t, "not more movements after "+what, len(after) <= len(before), true)
		case "retime":
			is(t, "as many movements after "+what, len(after), len(before))
		}
	})
}

// P8.6: no act lets a window be exceeded that was not.
func TestNoWindowIsExceeded(t *testing.T) {
	exceeded := 0
	someWalks(t, 63, func(what string, x *noise, w walk) {
		before := ok[[]capacity.Window](t)(capacity.Excess(w.limits, allMovements(w.before)))
		after := ok[[]capacity.Window](t)(capacity.Excess(w.limits, allMovements(w.after)))
		for _, window := range after {
			was := slices.ContainsFunc(before, func(other capacity.Window) bool {
				return other.Limit == window.Limit && other.Begin == window.Begin && other.Count >= window.Count
			})
			is(t, fmt.Sprint("exceeded before, too: ", window, " of ", what), was, true)
			exceeded++
		}
	})
	is(t, fmt.Sprint("other limits are exceeded: ", exceeded), exceeded > 100, true)
}

// holdersOf returns the holders of all slots of a book.
func holdersOf(b trade.Book) []string {
	var holders []string
	for _, s := range b.Slots {
		holders = append(holders, s.Holder)
	}
	return holders
}

// P8.6: a ring as often as it has slots gives each one its holder again; a swap is its own inverse.
func TestRingsClose(t *testing.T) {
	x := noise(64)
	rings := [9]int{}
	for range 400 {
		n := 2 + x.next(7)
		b := book(slots(n + x.next(9))...)
		var ring []string
		for i := range b.Slots {
			b.Slots[i].Holder = fmt.Sprint("c", i)
			b.Slots[i].Shares = list("z")[:x.next(2)]
			ring = append(ring, b.Slots[i].Request.Name)
		}
		for i := range ring {
			j := x.next(i + 1)
			ring[i], ring[j] = ring[j], ring[i]
		}
		ring = ring[:n]
		after := b
		for round := range n {
			if round > 0 {
				is(t, fmt.Sprint("all have moved in ", ring, round), slices.Equal(holdersOf(after), holdersOf(b)), false)
			}
			after = ok[trade.Book](t)(trade.Ring(after, ring))
			sorted, want := holdersOf(after), holdersOf(b)
			slices.Sort(sorted)
			slices.Sort(want)
			isList(t, fmt.Sprint("each holder has as many slots in ", ring), sorted, want)
		}
		isList(t, fmt.Sprint("the ring ", ring), holdersOf(after), holdersOf(b))
		rings[n]++
		swapped := ok[trade.Book](t)(trade.Swap(b, ring[0], ring[1]))
		isBook(t, "a swap of two is their ring", swapped, ok[trade.Book](t)(trade.Ring(b, ring[:2])))
		again := ok[trade.Book](t)(trade.Swap(swapped, ring[0], ring[1]))
		isList(t, fmt.Sprint("two swaps of ", ring[:2]), holdersOf(again), holdersOf(b))
		isBook(t, "two swaps the other way", ok[trade.Book](t)(trade.Swap(swapped, ring[1], ring[0])), again)
	}
	is(t, fmt.Sprint("there are rings of each length: ", rings), slices.Min(rings[2:]) > 20, true)
}

// P8.6: after Serve no wish fits, unless there are 64 slots.
func TestNobodyFitsAfterServe(t *testing.T) {
	x := noise(65)
	waited, full := 0, 0
	for range 600 {
		b, limits := x.someBook(), x.someLimits()
		after, served, e := trade.Serve(limits, b)
		is(t, "Serve", e, api.OK)
		what := fmt.Sprint(limits, b)
		is(t, "all are there: "+what, len(after.Slots)+len(after.Waiting), len(b.Slots)+len(b.Waiting))
		is(t, "served: "+what, len(after.Slots), len(b.Slots)+len(served))
		again, more, _ := trade.Serve(limits, after)
		isOutcome(t, "Serve again: "+what, ofServed(again, more, api.OK), outcome{b: after})
		if len(after.Slots) == 64 {
			full++
			continue
		}
		waited += len(after.Waiting)
		refusals := ok[[]trade.Refusal](t)(trade.Refused(limits, after))
		is(t, "all that wait are refused: "+what, len(refusals), len(after.Waiting))
		for _, w := range after.Waiting {
			// The wish by itself: its name is free when it does not wait any more.
			_, e := trade.Hold(limits, book(after.Slots...), w.Request)
			is(t, "Hold of a wish that waits: "+what, e, api.ErrFull)
		}
	}
	is(t, fmt.Sprint("some wait, and some books are full: ", waited, full), waited > 100 && full > 20, true)
}

// P8.6: no wish is served while one ahead of it, that fits, waits.
func TestNobodyIsPassedOver(t *testing.T) {
	x := noise(66)
	passed := 0
	for range 600 {
		b, limits := x.someBook(), x.someLimits()
		_, served, _ := trade.Serve(limits, b)
		slots := slices.Clone(b.Slots)
		left := served
		for _, w := range b.Waiting {
			if len(left) > 0 && left[0] == w.Request.Name {
				fits := ok[bool](t)(capacity.Fits(limits, allMovements(book(slots...)), w.Request))
				is(t, fmt.Sprint("one who is served fits: ", w, limits, b), fits, true)
				slots, left = append(slots, slot(w.Request)), left[1:]
			} else if len(left) > 0 {
				passed++
				fits := ok[bool](t)(capacity.Fits(limits, allMovements(book(slots...)), w.Request))
				is(t, fmt.Sprint("one who is passed over fits: ", w, limits, b), fits, false)
			}
		}
		is(t, "all who are served have waited, in this order", len(left), 0)
	}
	is(t, fmt.Sprint("some are passed over: ", passed), passed > 50, true)
}

// P8.6: each refusal names a full window of a movement of the wish; a wish without a refusal fits.
func TestRefusalsAreFull(t *testing.T) {
	x := noise(67)
	seen := [2]int{}
	for range 600 {
		b, limits := x.someBook(), x.someLimits()
		movements := ok[[]api.Movement](t)(trade.Movements(b))
		refusals := ok[[]trade.Refusal](t)(trade.Refused(limits, b))
		for _, w := range b.Waiting {
			what := fmt.Sprint(w, limits, b)
			fits := ok[bool](t)(capacity.Fits(limits, movements, w.Request))
			i := slices.IndexFunc(refusals, func(r trade.Refusal) bool { return r.Name == w.Request.Name })
			is(t, "a wish is refused or fits: "+what, i < 0, fits)
			if i < 0 {
				seen[0]++
				continue
			}
			seen[1]++
			r := refusals[i]
			l := limits[r.Limit]
			n := ok[int](t)(capacity.Count(l, movements, r.Moment))
			is(t, fmt.Sprint("the window is full: ", r, what), n >= l.Most, true)
			is(t, fmt.Sprint("the wish is in it: ", r, what), countIn(l, r.Moment, movementsOf(w.Request)), 1)
		}
	}
	is(t, fmt.Sprint("there are some of each: ", seen), seen[0] > 100 && seen[1] > 100, true)
}

// P8.6: a book that is replayed from its events is the book.
func TestReplayIsTheBook(t *testing.T) {
	x := noise(68)
	for range 100 {
		limits := x.someLimits()
		var b trade.Book
		var events []api.Event
		for range 200 {
			e := x.nextEvent(b, len(events)+1)
			if after, err := trade.Apply(limits, b, e); err == api.OK {
				events, b = append(events, e), after
			}
			if x.next(20) == 0 {
				isOutcome(t, fmt.Sprint("Replay ", events), ofReplay(trade.Replay(limits, events)), outcome{b: b})
			}
		}
		isOutcome(t, fmt.Sprint("Replay ", events), ofReplay(trade.Replay(limits, events)), outcome{b: b})
	}
}

// P8.6: what is lent and recalled on its first day, or waits and is served, leaves no trace but itself.
func TestActsAndTheirInverses(t *testing.T) {
	x := noise(69)
	lent, gone := 0, 0
	for range 600 {
		b := x.someBook()
		a := x.someArguments()
		for _, s := range b.Slots {
			if after, e := trade.Lend(b, s.Holder, s.Request.Name, a.l); e == api.OK {
				lent++
				isBook(t, fmt.Sprint("lent and recalled ", a.l, b), ok[trade.Book](t)(trade.Recall(after, s.Holder, s.Request.Name, a.l.From)), b)
				for day := a.l.From; day <= a.l.To; day++ {
					if hasDay(s.Request.Period, day) {
						is(t, "the operator", ok[string](t)(trade.Operator(after, s.Request.Name, day)), a.l.Carrier)
					}
				}
			}
		}
		if held, e := trade.Hold(a.limits, b, a.q); e == api.OK {
			gone++
			isBook(t, fmt.Sprint("held and handed back ", a.q, b), ok[trade.Book](t)(trade.Back(held, a.q.Carrier, a.q.Name, a.q.Period.From)), b)
		}
	}
	is(t, fmt.Sprint("there are some of each: ", lent, gone), lent > 50 && gone > 50, true)
}
