package trade_test

import (
	"fmt"
	"slices"
	"testing"

	"turnround/api"
	"turnround/trade"
)

// busy is a book with the slots of the chapter's examples, shares, a leased slot, and wishes.
func busy() trade.Book {
	return waiting(
		book(p(shared("gh", "cd")), q(shared("ab")), s(), slot(request("t", "ab", 800), leased(lease("gh", 8902, 8904), lease("ef", 8907, 8907)), shared("ef"))),
		wish(request("v", "ab", 600), 3), wish(r(), 5),
	)
}

// isHeld checks that the slots p, q, s and t of a book that was busy have these holders, that those which changed are shared with nobody, and that all else is as it was.
func isHeld(t *testing.T, what string, got trade.Book, holders ...string) {
	t.Helper()
	want := busy()
	for i, holder := range holders {
		if want.Slots[i].Holder != holder {
			want.Slots[i].Holder, want.Slots[i].Shares = holder, nil
		}
	}
	isBook(t, what, got, want)
}

// P8.2: two slots exchange their holders, and are shared with nobody then.
func TestSwap(t *testing.T) {
	b := busy()
	isHeld(t, "p and q", ok[trade.Book](t)(trade.Swap(b, "p", "q")), "cd", "ab", "ef", "ab")
	isHeld(t, "q and p", ok[trade.Book](t)(trade.Swap(b, "q", "p")), "cd", "ab", "ef", "ab")
	isHeld(t, "p and s", ok[trade.Book](t)(trade.Swap(b, "p", "s")), "ef", "cd", "ab", "ab")
	swapped := ok[trade.Book](t)(trade.Swap(book(p(), q()), "p", "q"))
	isBook(t, "the example", swapped, book(p(held("cd")), q(held("ab"))))
	for _, x := range []struct {
		one, two string
		e        api.Errno
	}{
		{"p", "x", api.ErrUnknown}, {"x", "p", api.ErrUnknown}, {"x", "x", api.ErrUnknown}, {"", "p", api.ErrUnknown}, {"p", "", api.ErrUnknown}, {"p", "r", api.ErrUnknown}, {"v", "p", api.ErrUnknown},
		{"t", "x", api.ErrUnknown}, {"p", "p", api.ErrTwice}, {"t", "t", api.ErrTwice},
		{"t", "q", api.ErrState}, {"q", "t", api.ErrState}, {"t", "p", api.ErrState}, {"p", "t", api.ErrState},
	} {
		isError(t, "Swap of "+x.one+" and "+x.two, ofBook(trade.Swap(b, x.one, x.two)), x.e)
	}
	isError(t, "one holder", ofBook(trade.Swap(book(p(), q(held("ab"))), "p", "q")), api.ErrHolder)
	isError(t, "one holder whose requests have different carriers", ofBook(trade.Swap(book(p(held("x")), q(held("x"))), "q", "p")), api.ErrHolder)
	swap := changed(example(), func(x *arguments) { x.other = "q" })
	isFirstFault(t, "Swap", swap,
		noSlot,
		fault{"an unknown second slot", api.ErrUnknown, func(x *arguments) { x.other = "unknown" }},
		fault{"one slot twice", api.ErrTwice, func(x *arguments) { x.slot, x.other = "p", "p" }},
		fault{"a lease", api.ErrState, func(x *arguments) {
			x.slot, x.b = "p", changedSlot(x.b, "p", leased(lease("gh", 8900, 8900)))
		}},
		fault{"one holder", api.ErrHolder, func(x *arguments) { x.b, x.other = changedSlot(x.b, "q", held("ab")), "q" }},
	)
	isModel(t, "Swap", 21, api.ErrUnknown, api.ErrTwice, api.ErrState, api.ErrHolder)
}

// P8.2: each slot of a ring gets the holder of the one that is named before it.
func TestRing(t *testing.T) {
	b := busy()
	isHeld(t, "the example", ok[trade.Book](t)(trade.Ring(b, list("p", "q", "s"))), "ef", "ab", "cd", "ab")
	isHeld(t, "from another one on", ok[trade.Book](t)(trade.Ring(b, list("q", "s", "p"))), "ef", "ab", "cd", "ab")
	isHeld(t, "the other way", ok[trade.Book](t)(trade.Ring(b, list("s", "q", "p"))), "cd", "ef", "ab", "ab")
	isHeld(t, "two slots", ok[trade.Book](t)(trade.Ring(b, list("s", "p"))), "ef", "cd", "ab", "ab")
	eight := slots(9)
	var ring, holders []string
	for i := range eight {
		eight[i].Holder = fmt.Sprint("c", i)
		ring = append(ring, eight[i].Request.Name)
	}
	after := ok[trade.Book](t)(trade.Ring(book(eight...), ring[1:]))
	for _, s := range after.Slots {
		holders = append(holders, s.Holder)
	}
	isList(t, "eight slots", holders, list("c0", "c8", "c1", "c2", "c3", "c4", "c5", "c6", "c7"))
	isError(t, "nine slots", ofBook(trade.Ring(book(eight...), ring)), api.ErrMany)
	isError(t, "nine unknown slots", ofBook(trade.Ring(b, make([]string, 9))), api.ErrMany)
	for _, x := range []bad[[]string]{
		{"no slots", nil, api.ErrShort},
		{"one slot", list("p"), api.ErrShort},
		{"one unknown slot", list("x"), api.ErrShort},
		{"an unknown slot", list("p", "q", "x"), api.ErrUnknown},
		{"an unknown slot twice", list("x", "p", "x"), api.ErrUnknown},
		{"a wish", list("p", "r"), api.ErrUnknown},
		{"twice", list("p", "q", "p"), api.ErrTwice},
		{"twice in a row", list("p", "q", "q"), api.ErrTwice},
		{"twice before an unknown slot", list("p", "p", "x"), api.ErrTwice},
		{"an unknown slot before twice", list("p", "x", "p"), api.ErrUnknown},
		{"a leased slot twice", list("t", "t"), api.ErrTwice},
		{"a leased slot", list("q", "s", "t"), api.ErrState},
		{"a leased slot of the same holder", list("t", "q", "p"), api.ErrState},
	} {
		isError(t, "Ring: "+x.what, ofBook(trade.Ring(b, x.value)), x.e)
	}
	for _, holders := range [][]string{{"x", "x", "y"}, {"x", "y", "x"}, {"y", "x", "x"}, {"x", "x", "x"}} {
		three := book(p(held(holders[0])), q(held(holders[1])), s(held(holders[2])))
		isError(t, fmt.Sprint("holders ", holders), ofBook(trade.Ring(three, list("p", "q", "s"))), api.ErrHolder)
	}
	isHeld(t, "another slot of a holder in the ring", ok[trade.Book](t)(trade.Ring(b, list("p", "q"))), "cd", "ab", "ef", "ab")
	isFirstFault(t, "Ring", example(),
		fault{"one slot", api.ErrShort, func(x *arguments) { x.slots = list("p") }},
		fault{"nine slots", api.ErrMany, func(x *arguments) { x.slots = slices.Repeat(list("x"), 9) }},
		fault{"an unknown slot before one twice", api.ErrUnknown, func(x *arguments) { x.slots = list("p", "x", "p") }},
		fault{"a slot twice", api.ErrTwice, func(x *arguments) { x.slots = list("p", "q", "p") }},
		isLeased,
		fault{"one holder", api.ErrHolder, func(x *arguments) { x.b = changedSlot(x.b, "s", held("cd")) }},
	)
	isModel(t, "Ring", 22, api.ErrShort, api.ErrMany, api.ErrUnknown, api.ErrTwice, api.ErrState, api.ErrHolder)
}

// P8.2: a slot gets another holder, and is shared with nobody then.
func TestTransfer(t *testing.T) {
	b := busy()
	isHeld(t, "p", ok[trade.Book](t)(trade.Transfer(b, "ab", "p", "zz")), "zz", "cd", "ef", "ab")
	isHeld(t, "to one who shares it", ok[trade.Book](t)(trade.Transfer(b, "ab", "p", "gh")), "gh", "cd", "ef", "ab")
	isHeld(t, "s", ok[trade.Book](t)(trade.Transfer(b, "ef", "s", "ab")), "ab", "cd", "ab", "ab")
	isError(t, "the carrier of the request alone", ofBook(trade.Transfer(book(p(held("x"))), "ab", "p", "y")), api.ErrHolder)
	isBook(t, "back to the carrier of the request", ok[trade.Book](t)(trade.Transfer(book(p(held("x"))), "x", "p", "ab")), book(p()))
	isError(t, "a leased slot", ofBook(trade.Transfer(b, "ab", "t", "zz")), api.ErrState)
	isError(t, "a leased slot to who leases it", ofBook(trade.Transfer(b, "ab", "t", "gh")), api.ErrState)
	isError(t, "a wish", ofBook(trade.Transfer(b, "ef", "r", "gh")), api.ErrUnknown)
	for _, s := range noNames {
		isError(t, "carrier "+s, ofBook(trade.Transfer(b, s, "x", s)), api.ErrName)
		isError(t, "to "+s, ofBook(trade.Transfer(b, "zz", "p", s)), api.ErrName)
	}
	isFirstFault(t, "Transfer", example(), noCarrier, noSlot, noOther, notHolder, withHolder, isLeased)
	isModel(t, "Transfer", 23, api.ErrName, api.ErrUnknown, api.ErrHolder, api.ErrState)
}

// P8.2: a lease is added at its place.
func TestLend(t *testing.T) {
	first, second := lease("gh", 8902, 8904), lease("ef", 8907, 8907)
	b := busy()
	for _, x := range []struct {
		what string
		l    trade.Lease
		want []trade.Lease
	}{
		{"before all", lease("ef", 8900, 8901), list(lease("ef", 8900, 8901), first, second)},
		{"between", lease("gh", 8905, 8906), list(first, lease("gh", 8905, 8906), second)},
		{"between, on one day", lease("zz", 8906, 8906), list(first, lease("zz", 8906, 8906), second)},
		{"behind all", lease("gh", 8908, 8909), list(first, second, lease("gh", 8908, 8909))},
		{"one day at the end", lease("cd", 8909, 8909), list(first, second, lease("cd", 8909, 8909))},
	} {
		got := ok[trade.Book](t)(trade.Lend(b, "ab", "t", x.l))
		isBook(t, "Lend "+x.what, got, changedSlot(b, "t", leased(x.want...)))
	}
	whole := lease("gh", 8900, 8909)
	isBook(t, "the whole period", ok[trade.Book](t)(trade.Lend(b, "ab", "p", whole)), changedSlot(b, "p", leased(whole)))
	isBook(t, "to one who shares it", ok[trade.Book](t)(trade.Lend(b, "ab", "p", first)), changedSlot(b, "p", leased(first)))
	seven := days("gh", 8900, 8906)
	isBook(t, "the eighth lease", ok[trade.Book](t)(trade.Lend(book(p(leased(seven...))), "ab", "p", lease("ef", 8908, 8908))), book(p(leased(append(seven, lease("ef", 8908, 8908))...))))
	isError(t, "the ninth lease", ofBook(trade.Lend(book(p(leased(days("gh", 8900, 8907)...))), "ab", "p", lease("ef", 8909, 8909))), api.ErrMany)
	isError(t, "the ninth lease, which clashes", ofBook(trade.Lend(book(p(leased(days("gh", 8900, 8907)...))), "ab", "p", lease("ef", 8907, 8909))), api.ErrClash)
	for _, l := range list(lease("gh", 8904, 8906), lease("zz", 8901, 8902), lease("zz", 8903, 8903), lease("zz", 8900, 8909), lease("gh", 8902, 8904), lease("zz", 8907, 8907), lease("zz", 8905, 8907), lease("zz", 8907, 8909)) {
		isError(t, fmt.Sprint("a day in common ", l), ofBook(trade.Lend(b, "ab", "t", l)), api.ErrClash)
	}
	for _, l := range list(lease("gh", 8899, 8901), lease("gh", 8908, 8910), lease("gh", 0, 99999), lease("gh", 8910, 8910), lease("ab", 8899, 8899), lease("gh", 8899, 8904)) {
		isError(t, fmt.Sprint("outside ", l), ofBook(trade.Lend(b, "ab", "t", l)), api.ErrOutside)
	}
	isError(t, "to the holder", ofBook(trade.Lend(b, "ab", "t", lease("ab", 8902, 8904))), api.ErrHolder)
	isBook(t, "to the carrier of the request", ok[trade.Book](t)(trade.Lend(book(p(held("x"))), "x", "p", lease("ab", 8902, 8904))), book(p(held("x"), leased(lease("ab", 8902, 8904)))))
	for _, x := range badLeases() {
		isError(t, x.what, ofBook(trade.Lend(b, "ab", "p", x.value)), x.e)
		isError(t, "not the holder, and "+x.what, ofBook(trade.Lend(b, "zz", "p", x.value)), x.e)
	}
	for _, s := range noNames {
		isError(t, "carrier "+s, ofBook(trade.Lend(b, s, "x", trade.Lease{})), api.ErrName)
	}
	isFirstFault(t, "Lend", example(), noCarrier, noSlot,
		fault{"a lease of nobody", api.ErrName, func(x *arguments) { x.l.Carrier = "1a" }},
		fault{"a lease from no day", api.ErrRange, func(x *arguments) { x.l.From = -1 }},
		fault{"a lease to no day", api.ErrRange, func(x *arguments) { x.l.To = 100000 }},
		fault{"a lease that ends before it begins", api.ErrOrder, func(x *arguments) { x.l.From, x.l.To = 8912, 8911 }},
		notHolder,
		fault{"a lease beyond the period", api.ErrOutside, func(x *arguments) { x.l.From, x.l.To = 8902, 8910 }},
		fault{"a lease to the holder", api.ErrHolder, func(x *arguments) { x.l = lease("ab", x.l.From, x.l.To) }},
		fault{"a clash", api.ErrClash, func(x *arguments) {
			x.l.From, x.l.To, x.b = 8901, 8902, changedSlot(x.b, "p", leased(days("ef", 8902, 8909)...))
		}},
		fault{"eight leases", api.ErrMany, func(x *arguments) {
			x.l.From, x.l.To, x.b = 8900, 8901, changedSlot(x.b, "p", leased(days("ef", 8902, 8909)...))
		}},
	)
	isModel(t, "Lend", 24, api.ErrName, api.ErrUnknown, api.ErrRange, api.ErrOrder, api.ErrOutside, api.ErrHolder, api.ErrClash)
}

// P8.2: the lease that contains a day ends before it.
func TestRecall(t *testing.T) {
	b := busy()
	for _, x := range []struct {
		day  int
		want []trade.Lease
	}{
		{8902, list(lease("ef", 8907, 8907))},
		{8903, list(lease("gh", 8902, 8902), lease("ef", 8907, 8907))},
		{8904, list(lease("gh", 8902, 8903), lease("ef", 8907, 8907))},
		{8907, list(lease("gh", 8902, 8904))},
	} {
		got := ok[trade.Book](t)(trade.Recall(b, "ab", "t", x.day))
		isBook(t, fmt.Sprint("Recall on ", x.day), got, changedSlot(b, "t", leased(x.want...)))
	}
	for _, day := range []int{0, 8900, 8901, 8905, 8906, 8908, 8909, 8910, 99999} {
		isError(t, fmt.Sprint("Recall on ", day), ofBook(trade.Recall(b, "ab", "t", day)), api.ErrNone)
	}
	for _, day := range noDays {
		isError(t, fmt.Sprint("Recall on ", day), ofBook(trade.Recall(b, "zz", "t", day)), api.ErrRange)
	}
	isError(t, "no leases", ofBook(trade.Recall(b, "ab", "p", 8903)), api.ErrNone)
	isError(t, "by who leases it", ofBook(trade.Recall(b, "gh", "t", 8903)), api.ErrHolder)
	// The day of a lease may be none of the days of the period.
	tuesdays := book(p(asked(on(8899, 8909, 2)), leased(lease("gh", 8901, 8907))))
	isBook(t, "on a day that is none of the period", ok[trade.Book](t)(trade.Recall(tuesdays, "ab", "p", 8904)), changedSlot(tuesdays, "p", leased(lease("gh", 8901, 8903))))
	first := book(p(asked(on(0, 9, 127)), leased(lease("gh", 0, 0), lease("ef", 1, 1))))
	isBook(t, "on the first of all days", ok[trade.Book](t)(trade.Recall(first, "ab", "p", 0)), changedSlot(first, "p", leased(lease("ef", 1, 1))))
	for _, s := range noNames {
		isError(t, "carrier "+s, ofBook(trade.Recall(b, s, "x", -1)), api.ErrName)
	}
	recall := changed(example(), isLeased.change, func(x *arguments) { x.day = 8903 })
	isFirstFault(t, "Recall", recall, noCarrier, noSlot, noDay, notHolder, fault{"no lease on the day", api.ErrNone, func(x *arguments) { x.day = 8905 }})
	isModel(t, "Recall", 25, api.ErrName, api.ErrUnknown, api.ErrRange, api.ErrHolder, api.ErrNone)
}

// P8.2: a carrier more shares a slot.
func TestShare(t *testing.T) {
	b := busy()
	for _, x := range []struct {
		carrier, slot, with string
		want                []string
	}{
		{"ab", "p", "ef", list("gh", "cd", "ef")},
		{"ab", "p", "aa", list("gh", "cd", "aa")},
		{"cd", "q", "ef", list("ab", "ef")},
		{"ef", "s", "zz", list("zz")},
		{"ab", "t", "gh", list("ef", "gh")},
	} {
		got := ok[trade.Book](t)(trade.Share(b, x.carrier, x.slot, x.with))
		isBook(t, "Share "+x.slot+" with "+x.with, got, changedSlot(b, x.slot, shared(x.want...)))
	}
	three, four := book(p(shared("c", "d", "e"))), book(p(shared("c", "d", "e", "f")))
	isBook(t, "the fourth one", ok[trade.Book](t)(trade.Share(three, "ab", "p", "f")), four)
	isError(t, "the fifth one", ofBook(trade.Share(four, "ab", "p", "g")), api.ErrMany)
	isError(t, "the fourth one again", ofBook(trade.Share(four, "ab", "p", "f")), api.ErrTwice)
	isError(t, "the holder as the fifth one", ofBook(trade.Share(four, "ab", "p", "ab")), api.ErrHolder)
	isError(t, "by who shares it", ofBook(trade.Share(b, "gh", "p", "zz")), api.ErrHolder)
	isError(t, "a wish", ofBook(trade.Share(b, "ef", "r", "zz")), api.ErrUnknown)
	isBook(t, "with the carrier of the request", ok[trade.Book](t)(trade.Share(book(p(held("x"))), "x", "p", "ab")), book(p(held("x"), shared("ab"))))
	for _, s := range noNames {
		isError(t, "carrier "+s, ofBook(trade.Share(b, s, "x", s)), api.ErrName)
		isError(t, "with "+s, ofBook(trade.Share(b, "zz", "p", s)), api.ErrName)
	}
	sharedTwice := fault{"one who shares it", api.ErrTwice, func(x *arguments) { x.other, x.b = "c", changedSlot(x.b, "p", shared("c", "d", "e", "f")) }}
	sharedByFour := fault{"four who share it", api.ErrMany, func(x *arguments) { x.other, x.b = "g", changedSlot(x.b, "p", shared("c", "d", "e", "f")) }}
	isFirstFault(t, "Share", example(), noCarrier, noSlot, noOther, notHolder, withHolder, sharedTwice, sharedByFour)
	isModel(t, "Share", 26, api.ErrName, api.ErrUnknown, api.ErrHolder, api.ErrTwice, api.ErrMany)
}
