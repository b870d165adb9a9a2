package trade_test

import (
	"fmt"
	"math"
	"slices"
	"strings"
	"testing"

	"turnround/api"
	"turnround/capacity"
	"turnround/trade"
)

var (
	oddNumbers = []int{math.MinInt, math.MinInt + 1, -1440, -1, 0, 1, 2, 4, 8, 63, 64, 65, 127, 128, 400, 600, 1000, 1001, 1439, 1440, 8900, 8905, 8909, 8910, 99999, 100000, 12816600, 143999999, 144000000, 999999999, 1000000000, math.MaxInt - 1, math.MaxInt}
	oddTexts   = []string{"", " ", "\n", "A", "D", "T", "p", "q", "ab", "hold", "ring", "serve", "-", "\x00", "\xff\xfe", "\xe2\x82", "äö", strings.Repeat("a", 25), strings.Repeat("9", 20000)}
)

// oddArguments has arguments with odd numbers and texts, beside books with some.
func oddArguments() []arguments {
	var all []arguments
	for i, n := range oddNumbers {
		text, m := oddTexts[i%len(oddTexts)], oddNumbers[len(oddNumbers)-1-i]
		q := api.Request{Name: text, Carrier: text, Kind: text, Terminal: text, Partner: text, Link: text, Period: api.Period{From: n, To: m, Days: n}, Minute: n, Seats: m, Size: n, Noise: m}
		l := lease(text, n, m)
		limit := capacity.Limit{Name: text, Kind: text, Terminal: text, Length: n, Step: m, From: n, To: m, Period: api.Period{From: n, To: m, Days: n}, Most: m}
		odd := arguments{
			q: q, w: wish(q, n), carrier: text, slot: text, other: text, day: n, minute: n, l: l, slots: list(text, "p", text),
			event: api.Event{Number: n, Kind: text, Names: list(text), Values: list(n), Text: text},
		}
		for _, b := range []trade.Book{
			{}, busy(), book(slot(q)), book(p(held(text))), book(p(leased(l))), book(p(leased(lease("gh", n, n)))), book(p(shared(text, text))), waiting(book(p()), wish(q, n)), waiting(book(p()), wish(r(), n)),
			book(p(asked(on(n, m, 127)))), book(p(asked(on(n, n, 127)))), book(p(asked(on(0, 0, n)))),
		} {
			odd.b = b
			odd.limits = nil
			all = append(all, odd)
			for _, limits := range [][]capacity.Limit{list(limit), list(hour(lasting(n), every(n, 0, 1439))), list(hour(every(7, n, n), atMost(0))), list(hour(onDays(n, n, 127))), list(hour(atMost(n)))} {
				odd.limits = limits
				all = append(all, odd)
			}
			usual := example()
			usual.b, usual.day, usual.minute, usual.l = b, n, n, lease("gh", n, m)
			usual.q.Minute, usual.w.Rank, usual.event.Number = n, n, n
			all = append(all, usual, changed(usual, func(x *arguments) {
				x.carrier, x.slot, x.other, x.l.Carrier, x.q.Name, x.w.Request.Name = text, text, text, text, text, text
			}))
		}
	}
	return all
}

// P1: no numbers and texts make a function panic, and what stands beside an error is zero.
func TestOddArguments(t *testing.T) {
	for i, x := range oddArguments() {
		for _, f := range functions {
			got := f.call(x)
			isOutcome(t, fmt.Sprint(f.name, " of the odd arguments ", i), got, f.want(x))
			if got.e != api.OK {
				isError(t, f.name+" beside an error", got, got.e)
			}
		}
		for _, s := range x.b.Slots {
			is(t, "CheckSlot", trade.CheckSlot(s), slotError(s))
		}
		for _, e := range eventsOf(x) {
			x.event = e
			isOutcome(t, fmt.Sprint("Apply of ", e), ofBook(trade.Apply(x.limits, x.b, e)), functionOf("Apply").want(x))
		}
		b, at, e := trade.Replay(x.limits, list(x.event, x.event))
		isOutcome(t, "Replay beside an error", ofReplay(b, at, e), outcome{index: at, e: e})
	}
}

// P1: no kinds, names and values of an event make Apply panic.
func TestOddEvents(t *testing.T) {
	x := noise(71)
	kinds := []string{"hold", "back", "recall", "swap", "ring", "transfer", "lend", "share", "retime", "wait", "serve", "", "x"}
	for range 20000 {
		a := arguments{limits: list(hour()), b: busy()}
		a.event = api.Event{Number: pick(&x, 1, 5, 1000, x.next(1003)-1), Kind: pick(&x, kinds...), Text: pick(&x, "", "", "", "x")}
		for range x.next(7) {
			a.event.Names = append(a.event.Names, pick(&x, pick(&x, "p", "t", "ab", "A", "gh"), pick(&x, oddTexts...)))
		}
		for range x.next(10) {
			a.event.Values = append(a.event.Values, pick(&x, 8900+x.next(10), pick(&x, oddNumbers...)))
		}
		f := functionOf("Apply")
		isOutcome(t, fmt.Sprint("Apply of ", a.event), f.call(a), f.want(a))
	}
}

// P1: no lists of any length make a function panic.
func TestOddLists(t *testing.T) {
	for _, n := range []int{0, 1, 2, 3, 4, 5, 8, 9, 32, 33, 64, 65, 1000, 1001, 100000} {
		// want is the error of n empty elements, of which there may be only so many.
		want := func(most int) api.Errno {
			switch {
			case n == 0:
				return api.OK
			case n > most:
				return api.ErrMany
			}
			return api.ErrName
		}
		for _, f := range functions {
			if n > 0 {
				isError(t, f.name+" with empty slots", f.call(arguments{b: book(make([]trade.Slot, n)...)}), want(64))
				isError(t, f.name+" with empty wishes", f.call(arguments{b: waiting(book(), make([]trade.Wish, n)...)}), want(64))
			}
			if n > 0 && f.limits {
				isError(t, f.name+" with empty limits", f.call(arguments{limits: make([]capacity.Limit, n)}), want(32))
			}
		}
		is(t, "CheckSlot with empty leases", trade.CheckSlot(p(leased(make([]trade.Lease, n)...))), want(8))
		is(t, "CheckSlot with empty shares", trade.CheckSlot(p(shared(make([]string, n)...))), want(4))
		ring := api.ErrUnknown
		switch {
		case n < 2:
			ring = api.ErrShort
		case n > 8:
			ring = api.ErrMany
		}
		isError(t, "Ring of empty names", ofBook(trade.Ring(book(p(), q()), make([]string, n))), ring)
		isError(t, "Apply of a ring of empty names", ofBook(trade.Apply(nil, book(p(), q()), event("ring", make([]string, n)))), ring)
		shape := api.OK
		if n > 0 {
			shape = api.ErrShape
		}
		_, e := trade.Apply(nil, book(p(), q()), event("serve", make([]string, n)))
		is(t, "Apply with empty names", e, shape)
		_, e = trade.Apply(nil, book(p(), q()), event("serve", nil, make([]int, n)...))
		is(t, "Apply with empty values", e, shape)
		many := api.OK
		switch {
		case n > 1000:
			many = api.ErrMany
		case n > 0:
			many = api.ErrOrder
		}
		_, at, e := trade.Replay(nil, make([]api.Event, n))
		is(t, "Replay with empty events", e, many)
		is(t, "the index of empty events", at, 0)
	}
}

// P1: the largest books are served to their end.
func TestLargestBooks(t *testing.T) {
	long := on(99599, 99999, 127)
	var limits []capacity.Limit
	for i := range 32 {
		limits = append(limits, hour(named(fmt.Sprint("l", i)), every(60, 0, 1439), onDays(99599, 99999, 127), atMost(999999999-i)))
	}
	limits[31] = hour(named("last"), every(720, 0, 1439), lasting(1440), onDays(99999, 99999, 127), atMost(63))
	var b trade.Book
	for i := range 64 {
		name := fmt.Sprintf("%s%02d", strings.Repeat("x", 22), i)
		if i < 62 {
			b.Slots = append(b.Slots, slot(request(name, "ab", i, long), shared("c", "d", "e", "f"), leased(days("gh", 99992, 99999)...)))
		}
		if i < 3 {
			b.Waiting = append(b.Waiting, wish(request("y"+name[1:], "ab", i, long), 999999997+i))
		}
	}
	is(t, "CheckBook", trade.CheckBook(b), api.OK)
	is(t, "movements", len(ok[[]api.Movement](t)(trade.Movements(b))), 62*401)
	is(t, "refusals", len(ok[[]trade.Refusal](t)(trade.Refused(limits, b))), 0)
	after, served, e := trade.Serve(limits, b)
	is(t, "Serve", e, api.OK)
	isList(t, "served", served, namesOf(b.Waiting[:1]))
	const last = 99999 * 1440
	isList(t, "refusals", ok[[]trade.Refusal](t)(trade.Refused(limits, after)), list(trade.Refusal{Name: b.Waiting[1].Request.Name, Limit: 31, Moment: last}, trade.Refusal{Name: b.Waiting[2].Request.Name, Limit: 31, Moment: last}))
	after, served, e = trade.Serve(nil, after)
	is(t, "Serve without limits", e, api.OK)
	isList(t, "served without limits", served, namesOf(b.Waiting[1:2]))
	is(t, "all movements", len(ok[[]api.Movement](t)(trade.Movements(after))), 64*401)
	isBook(t, "the last slot at its own minute", ok[trade.Book](t)(trade.Retime(nil, after, "ab", after.Slots[63].Request.Name, 1)), after)
}

// P1: many events are replayed to their end.
func TestManyEvents(t *testing.T) {
	var events []api.Event
	var want trade.Book
	for i := range 64 {
		name, other := fmt.Sprint("n", i), fmt.Sprintf("w%02d", i)
		events = append(events,
			event("hold", list(name, "ab", "A", "", "far"), 8900, 8909, 127, i, 100, 4, 0),
			event("wait", list(other, "cd", "D", "t", "far"), 8900, 8909, 127, i, 100, 4, 0, 63-i),
		)
		want.Slots = append(want.Slots, slot(request(name, "ab", i)))
		want.Waiting = append(list(wish(request(other, "cd", i, kind("D"), in("t")), 63-i)), want.Waiting...)
	}
	for len(events) < 1000 {
		i := len(events) % 64
		events = append(events, event("transfer", list("ab", fmt.Sprint("n", i), "cd")), event("transfer", list("cd", fmt.Sprint("n", i), "ab")))
	}
	isOutcome(t, "1000 events", ofReplay(trade.Replay(list(hour(atMost(64))), numbered(events...))), outcome{b: want})
}

// copyArguments returns arguments that share no memory with others.
func copyArguments(x arguments) arguments {
	x.limits, x.slots, x.b = slices.Clone(x.limits), slices.Clone(x.slots), copyBook(x.b)
	x.event.Names, x.event.Values = slices.Clone(x.event.Names), slices.Clone(x.event.Values)
	return x
}

// isSame checks that arguments are equal to others.
func isSame(t *testing.T, what string, got, want arguments) {
	t.Helper()
	isList(t, what+": limits", got.limits, want.limits)
	isBook(t, what+": book", got.b, want.b)
	isList(t, what+": slots", got.slots, want.slots)
	isList(t, what+": names", got.event.Names, want.event.Names)
	isList(t, what+": values", got.event.Values, want.event.Values)
}

// withSpare returns a book whose lists have room behind their ends, and a function that reports whether nothing was put there.
func withSpare(b trade.Book) (trade.Book, func() bool) {
	b = copyBook(b)
	mark := lease("mark", 1, 2)
	for i := range b.Slots {
		s := &b.Slots[i]
		s.Leases = append(s.Leases, mark, mark)[:len(s.Leases)]
		s.Shares = append(s.Shares, "mark", "mark")[:len(s.Shares)]
	}
	lastSlot, lastWish := slot(request("mark", "mark", 5)), wish(request("mark", "mark", 5), 5)
	b.Slots = append(b.Slots, lastSlot, lastSlot)[:len(b.Slots)]
	b.Waiting = append(b.Waiting, lastWish, lastWish)[:len(b.Waiting)]
	return b, func() bool {
		same := equalSlots(b.Slots[:len(b.Slots)+1][len(b.Slots)], lastSlot) && b.Waiting[:len(b.Waiting)+1][len(b.Waiting)] == lastWish
		for _, s := range b.Slots {
			same = same && s.Leases[:len(s.Leases)+1][len(s.Leases)] == mark && s.Shares[:len(s.Shares)+1][len(s.Shares)] == "mark"
		}
		return same
	}
}

// Rules: arguments are not modified, nor is what stands behind a list.
func TestArgumentsStay(t *testing.T) {
	x := noise(72)
	for range 400 {
		a := x.someArguments()
		b, isSpare := withSpare(a.b)
		a.b = b
		before := copyArguments(a)
		for _, f := range functions {
			f.call(a)
		}
		for _, e := range eventsOf(a) {
			trade.Apply(a.limits, a.b, e)
		}
		trade.Replay(a.limits, list(a.event, a.event))
		isSame(t, "arguments", a, before)
		is(t, "what stands behind the lists", isSpare(), true)
	}
}

// ruin changes everything in a book, and what stands behind its lists.
func ruin(b trade.Book) {
	for i := range b.Slots {
		s := &b.Slots[i]
		for j := range s.Leases {
			s.Leases[j] = lease("ruin", 0, 0)
		}
		for j := range s.Shares {
			s.Shares[j] = "ruin"
		}
		_ = append(s.Leases, lease("ruin", 0, 0))
		_ = append(s.Shares, "ruin")
	}
	clear(b.Slots)
	clear(b.Waiting)
	_ = append(b.Slots, trade.Slot{Holder: "ruin"})
	_ = append(b.Waiting, trade.Wish{Rank: 1})
}

// Rules: results share no memory with arguments, or with other results.
func TestResultsShareNothing(t *testing.T) {
	x := noise(73)
	changes := map[string]int{}
	for range 400 {
		a := x.someArguments()
		for _, f := range functions {
			before := copyArguments(a)
			first, second := f.call(a), f.call(a)
			if first.e != api.OK {
				continue
			}
			if !equalBooks(first.b, trade.Book{}) {
				changes[f.name]++
			}
			ruin(first.b)
			clear(first.movements)
			clear(first.served)
			clear(first.refusals)
			isSame(t, f.name+": arguments after a result was changed", a, before)
			isOutcome(t, f.name+": another result after one was changed", second, f.call(a))
		}
	}
	for _, name := range list("Hold", "Back", "Swap", "Ring", "Transfer", "Lend", "Recall", "Share", "Retime", "Wait", "Serve", "Apply") {
		is(t, fmt.Sprint("there are some books of each: ", changes), changes[name] > 3, true)
	}
}

// Rules: no two lists of one result share memory.
func TestListsOfResultsShareNothing(t *testing.T) {
	x := noise(74)
	for range 400 {
		a := x.someArguments()
		for _, f := range functions {
			got := f.call(a)
			for i := range got.b.Slots {
				before := copyBook(got.b)
				s := &got.b.Slots[i]
				s.Leases = append(s.Leases, lease("ruin", 0, 0))
				s.Shares = append(s.Shares, "ruin")
				clear(s.Leases)
				clear(s.Shares)
				before.Slots[i].Leases, before.Slots[i].Shares = s.Leases, s.Shares
				isBook(t, f.name+": after the lists of one slot were changed", got.b, before)
			}
		}
	}
	events := numbered(holdEvent(), event("share", list("ab", "p", "gh")), event("lend", list("ab", "p", "gh"), 8902, 8904), event("wait", list("r", "ef", "A", "", "far"), 8900, 8909, 127, 620, 100, 4, 0, 5))
	first, _, _ := trade.Replay(nil, events)
	second, _, _ := trade.Replay(nil, events)
	want := copyBook(second)
	ruin(first)
	isBook(t, "Replay after another result was changed", second, want)
	events[0].Names[0], events[1].Names[2], events[2].Values[0] = "z", "z", 0
	isBook(t, "Replay after its events were changed", second, want)
}

// Rules: the result of an act that changes nothing is another book.
func TestBooksAreCopied(t *testing.T) {
	b := busy()
	want := copyBook(b)
	ruin(ok[trade.Book](t)(trade.Retime(nil, b, "ab", "p", 600)))
	isBook(t, "after Retime to the same minute", b, want)
	served, _, _ := trade.Serve(list(hour(atMost(0))), b)
	ruin(served)
	isBook(t, "after Serve of nobody", b, want)
	ruin(ok[trade.Book](t)(trade.Apply(list(hour(atMost(0))), b, event("serve", nil))))
	isBook(t, "after the event serve of nobody", b, want)
	ruin(ok[trade.Book](t)(trade.Wait(b, wish(request("z", "ab", 5), 9))))
	isBook(t, "after Wait", b, want)
}
