package trade_test

import (
	"fmt"
	"slices"
	"testing"

	"turnround/api"
	"turnround/capacity"
	"turnround/trade"
)

// namesOf returns the names of wishes.
func namesOf(wishes []trade.Wish) []string {
	var all []string
	for _, w := range wishes {
		all = append(all, w.Request.Name)
	}
	return all
}

// P8.4: wishes wait in the order of their ranks, those of equal rank in that of their names.
func TestWait(t *testing.T) {
	b := book(p(), q(shared("x"), leased(lease("gh", 8902, 8904))))
	for _, x := range []struct {
		name string
		rank int
		want []string
	}{
		{"r", 5, list("r")},
		{"a", 5, list("a", "r")},
		{"z", 1, list("z", "a", "r")},
		{"Z", 5, list("z", "Z", "a", "r")},
		{"r1", 5, list("z", "Z", "a", "r", "r1")},
		{"y", 0, list("y", "z", "Z", "a", "r", "r1")},
		{"b", 999999999, list("y", "z", "Z", "a", "r", "r1", "b")},
		{"c", 10, list("y", "z", "Z", "a", "r", "r1", "c", "b")},
	} {
		w := wish(request(x.name, "ef", 620, link("p")), x.rank)
		after := ok[trade.Book](t)(trade.Wait(b, w))
		isBook(t, "slots stay", book(after.Slots...), book(b.Slots...))
		isList(t, "waiting after "+x.name, namesOf(after.Waiting), x.want)
		is(t, "the wish itself", after.Waiting[slices.Index(x.want, x.name)], w)
		b = after
	}
	isBook(t, "in an empty book", ok[trade.Book](t)(trade.Wait(trade.Book{}, wish(r(), 5))), waiting(book(), wish(r(), 5)))
	for _, q := range goodRequests() {
		isBook(t, fmt.Sprint("Wait ", q), ok[trade.Book](t)(trade.Wait(book(p()), wish(q, 0))), waiting(book(p()), wish(q, 0)))
	}
	for _, x := range badRequests() {
		isError(t, x.what, ofBook(trade.Wait(b, wish(x.value, -1))), x.e)
		isError(t, "on a full list: "+x.what, ofBook(trade.Wait(waiting(book(), wishes(64)...), wish(x.value, 5))), x.e)
	}
	for _, n := range noRanks {
		isError(t, fmt.Sprint("rank ", n), ofBook(trade.Wait(b, wish(p().Request, n))), api.ErrRange)
	}
	isError(t, "the name of a slot", ofBook(trade.Wait(b, wish(request("q", "ef", 5), 0))), api.ErrTwice)
	isError(t, "the name of a wish", ofBook(trade.Wait(b, wish(request("z", "ef", 5), 9))), api.ErrTwice)
	full := waiting(book(p()), wishes(64)...)
	isBook(t, "the 64th wish", ok[trade.Book](t)(trade.Wait(waiting(book(p()), wishes(63)...), wishes(64)[63])), full)
	isError(t, "the 65th wish", ofBook(trade.Wait(full, wish(r(), 0))), api.ErrMany)
	isError(t, "a wish again on a full list", ofBook(trade.Wait(full, wishes(64)[63])), api.ErrTwice)
	isBook(t, "beside 64 slots", ok[trade.Book](t)(trade.Wait(book(slots(64)...), wish(r(), 0))), waiting(book(slots(64)...), wish(r(), 0)))
	isFirstFault(t, "Wait", example(),
		fault{"a name that is none", api.ErrName, func(x *arguments) { x.w.Request.Name = "1" }},
		fault{"no kind", api.ErrKind, func(x *arguments) { x.w.Request.Kind = "" }},
		fault{"no size", api.ErrRange, func(x *arguments) { x.w.Request.Size = 0 }},
		fault{"no day", api.ErrEmpty, func(x *arguments) { x.w.Request.Period = api.Period{From: 8900, To: 8900, Days: 64} }},
		fault{"no rank", api.ErrRange, func(x *arguments) { x.w.Rank = -1 }},
		fault{"the name of a slot", api.ErrTwice, func(x *arguments) { x.w.Request.Name = "s" }},
		fault{"64 wishes", api.ErrMany, func(x *arguments) { x.b.Waiting = wishes(64) }},
	)
	isModel(t, "Wait", 41, api.ErrName, api.ErrRange, api.ErrEmpty, api.ErrTwice)
}

// P8.4: wishes that fit become slots, in their order.
func TestServe(t *testing.T) {
	limits := list(hour())
	v, w := request("v", "gh", 640), request("w", "gh", 700)
	full := book(p(shared("x")), q(leased(lease("gh", 8900, 8900))))
	for _, x := range []struct {
		what   string
		limits []capacity.Limit
		b      trade.Book
		slots  []trade.Slot
		left   []trade.Wish
		served []string
	}{
		{"an empty book", limits, trade.Book{}, nil, nil, nil},
		{"nobody waits", limits, full, full.Slots, nil, nil},
		{"nobody fits", limits, waiting(full, wish(r(), 1), wish(v, 2)), full.Slots, list(wish(r(), 1), wish(v, 2)), nil},
		{"one behind another fits", limits, waiting(full, wish(r(), 1), wish(w, 2)), append(copyBook(full).Slots, slot(w)), list(wish(r(), 1)), list("w")},
		{"one before another fits", limits, waiting(full, wish(w, 1), wish(r(), 2)), append(copyBook(full).Slots, slot(w)), list(wish(r(), 2)), list("w")},
		{"room for one", limits, waiting(book(q()), wish(v, 1), wish(r(), 2), wish(w, 3)), list(q(), slot(v), slot(w)), list(wish(r(), 2)), list("v", "w")},
		{"room for one, the other way", limits, waiting(book(q()), wish(r(), 1), wish(v, 2), wish(w, 3)), list(q(), slot(r()), slot(w)), list(wish(v, 2)), list("r", "w")},
		{"no limits", nil, waiting(full, wish(v, 1), wish(r(), 2)), append(copyBook(full).Slots, slot(v), slot(r())), nil, list("v", "r")},
		{"no room", list(hour(atMost(0))), waiting(full, wish(v, 1), wish(r(), 2)), full.Slots, list(wish(v, 1), wish(r(), 2)), nil},
		{"63 slots", nil, waiting(book(slots(63)...), wish(v, 1), wish(r(), 2), wish(w, 2)), append(slots(63), slot(v)), list(wish(r(), 2), wish(w, 2)), list("v")},
		{"64 slots", nil, waiting(book(slots(64)...), wish(v, 1)), slots(64), list(wish(v, 1)), nil},
		{"63 slots, and the first one does not fit", limits, waiting(book(append(slots(61), p(), q())...), wish(r(), 1), wish(w, 2), wish(request("z", "ab", 800), 3)), nil, nil, nil},
	} {
		wanted, served := serve(x.limits, x.b)
		if x.slots != nil || x.left != nil {
			isBook(t, "the model: "+x.what, wanted, waiting(book(x.slots...), x.left...))
			isList(t, "the model: "+x.what, served, x.served)
		}
		isOutcome(t, x.what, ofServed(trade.Serve(x.limits, x.b)), outcome{b: wanted, served: served})
	}
	b := ok[trade.Book](t)(trade.Back(waiting(book(p(), q()), wish(r(), 5)), "ab", "p", 8905))
	isOutcome(t, "five days too few", ofServed(trade.Serve(limits, b)), outcome{b: b})
	b = ok[trade.Book](t)(trade.Back(b, "ab", "p", 8900))
	isOutcome(t, "p is gone", ofServed(trade.Serve(limits, b)), outcome{b: book(q(), slot(r())), served: list("r")})
	isFirstFault(t, "Serve", example())
	isModel(t, "Serve", 42)
}

// P8.4: each wish that does not fit is refused by the first full window of its first movement that does not fit.
func TestRefused(t *testing.T) {
	const midnight = 1440 * 8900
	on5 := func(name string, minute int) trade.Slot {
		return slot(request(name, "ab", minute, on(8905, 8909, 127)))
	}
	half := hour(named("half"), every(30, 0, 1410), atMost(3))
	for _, x := range []struct {
		what   string
		limits []capacity.Limit
		b      trade.Book
		want   []trade.Refusal
	}{
		{"the example", list(hour()), waiting(book(p(), q()), wish(r(), 5)), list(trade.Refusal{Name: "r", Moment: 12816600})},
		{"nobody waits", list(hour(atMost(0))), book(p(), q()), nil},
		{"an empty book", list(hour(atMost(0))), trade.Book{}, nil},
		{"one that fits", list(hour()), waiting(book(p(), q()), wish(request("v", "ab", 660), 1)), nil},
		{"wishes are not in the way", list(hour(atMost(1))), waiting(book(), wish(request("v", "ab", 600), 1), wish(r(), 2)), nil},
		{"no limits", nil, waiting(book(p(), q()), wish(r(), 2)), nil},
		{"nothing is permitted", list(hour(named("far"), onDays(0, 400, 127), atMost(0)), hour(atMost(0))), waiting(book(), wish(request("v", "ab", 5), 1), wish(r(), 2)), list(trade.Refusal{Name: "v", Limit: 1, Moment: midnight}, trade.Refusal{Name: "r", Limit: 1, Moment: midnight + 600})},
		{"one that fits between two", list(hour()), waiting(book(p(), q()), wish(r(), 1), wish(request("v", "ab", 700), 2), wish(request("w", "ab", 659), 3)), list(trade.Refusal{Name: "r", Moment: midnight + 600}, trade.Refusal{Name: "w", Moment: midnight + 600})},
		{"on a later day", list(hour()), waiting(book(p(), on5("v", 630)), wish(r(), 1)), list(trade.Refusal{Name: "r", Moment: midnight + 5*1440 + 600})},
		{"on the last day", list(hour()), waiting(book(p(), slot(request("v", "ab", 630, on(8909, 8909, 127)))), wish(r(), 1)), list(trade.Refusal{Name: "r", Moment: midnight + 9*1440 + 600})},
		{"the last limit on the first day", list(half, hour()), waiting(book(p(), q(), on5("v", 650), on5("w", 655)), wish(r(), 1)), list(trade.Refusal{Name: "r", Limit: 1, Moment: midnight + 600})},
		{"the first limit of a day", list(half, hour(atMost(4))), waiting(book(p(), q(), on5("v", 650), on5("w", 655)), wish(r(), 1)), list(trade.Refusal{Name: "r", Moment: midnight + 5*1440 + 600})},
		{"the first window of a limit", list(hour(named("half"), every(30, 0, 1410), atMost(1))), waiting(book(p(), q()), wish(r(), 1)), list(trade.Refusal{Name: "r", Moment: midnight + 570})},
		{"the days that it asks for", list(hour()), waiting(book(p(), q()), wish(request("v", "ab", 620, on(8890, 8920, 8)), 1)), list(trade.Refusal{Name: "v", Moment: midnight + 2*1440 + 600})},
	} {
		isList(t, "the model: "+x.what, refused(x.limits, x.b), x.want)
		isOutcome(t, x.what, ofRefusals(trade.Refused(x.limits, x.b)), outcome{refusals: x.want})
	}
	isFirstFault(t, "Refused", example())
	isModel(t, "Refused", 43)
}

// P8.4: there are some of each in the random books.
func TestSomeAreServed(t *testing.T) {
	x := noise(44)
	seen := [3]int{}
	for range 1000 {
		a := x.someArguments()
		if bookError(a.b) != api.OK || capacity.CheckLimits(a.limits) != api.OK {
			continue
		}
		b, served := serve(a.limits, a.b)
		if len(served) > 1 {
			seen[0]++
		}
		if len(b.Waiting) > 0 && len(served) > 0 {
			seen[1]++
		}
		for _, y := range refused(a.limits, a.b) {
			w := a.b.Waiting[slices.IndexFunc(a.b.Waiting, func(w trade.Wish) bool { return w.Request.Name == y.Name })]
			if y.Limit > 0 && y.Moment/1440 > w.Request.Period.From {
				seen[2]++
			}
		}
	}
	is(t, fmt.Sprint("many are served, some are not, and some are refused later: ", seen), min(seen[0], seen[1], seen[2]) > 20, true)
}
