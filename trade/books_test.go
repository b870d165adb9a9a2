package trade_test

import (
	"fmt"
	"slices"
	"testing"

	"turnround/api"
	"turnround/trade"
)

// P8.1: the first error of a slot, and none on the edges of what is permitted.
func TestCheckSlot(t *testing.T) {
	for _, x := range badSlots() {
		is(t, "CheckSlot: "+x.what, trade.CheckSlot(x.value), x.e)
		is(t, "the model: "+x.what, slotError(x.value), x.e)
	}
	for _, s := range goodSlots() {
		is(t, fmt.Sprint("CheckSlot ", s), trade.CheckSlot(s), api.OK)
		is(t, fmt.Sprint("the model of ", s), slotError(s), api.OK)
	}
}

// P8.1: the first error of a book, and none on the edges of what is permitted.
func TestCheckBook(t *testing.T) {
	for _, x := range badBooks() {
		is(t, "CheckBook: "+x.what, trade.CheckBook(x.value), x.e)
		is(t, "the model: "+x.what, bookError(x.value), x.e)
	}
	for i, b := range goodBooks() {
		is(t, fmt.Sprint("CheckBook of the good book ", i), trade.CheckBook(b), api.OK)
		is(t, fmt.Sprint("the model of the good book ", i), bookError(b), api.OK)
	}
}

// P8.1, P8.2, P8.3, P8.4, P8.5: the errors of limits, then of a book, of all functions that have them.
func TestErrorsOfBooks(t *testing.T) {
	for _, f := range functions {
		for _, x := range badBooks() {
			isError(t, f.name+" with "+x.what, f.call(changed(example(), func(a *arguments) { a.b = x.value })), x.e)
			isError(t, f.name+" with nothing else, and "+x.what, f.call(arguments{b: x.value}), x.e)
		}
		for _, x := range badLimits() {
			want := f.want(example())
			if f.limits {
				want = ofError(x.e)
				isError(t, f.name+" with no book, and "+x.what, f.call(arguments{limits: x.value, b: book(trade.Slot{})}), x.e)
			}
			isOutcome(t, f.name+" with "+x.what, f.call(changed(example(), func(a *arguments) { a.limits = x.value })), want)
		}
	}
}

// P8.1: movements are those of all slots, by moments, then by kinds, then by names.
func TestMovements(t *testing.T) {
	day := on(8900, 8900, 127)
	at := func(name string, minute int, changes ...func(*api.Request)) trade.Slot {
		return slot(request(name, "ab", minute, append(changes, day)...))
	}
	movement := func(moment int, kind, terminal, name string) api.Movement {
		return api.Movement{Moment: moment, Kind: kind, Terminal: terminal, Seats: 100, Size: 4, Name: name}
	}
	const midnight = 1440 * 8900
	for _, x := range []struct {
		what string
		b    trade.Book
		want []api.Movement
	}{
		{"no slots", book(), nil},
		{"wishes alone", waiting(book(), wish(r(), 5)), nil},
		{"one day", book(at("a", 5, in("t"))), list(movement(midnight+5, "A", "t", "a"))},
		{"by moments", book(at("a", 7), at("b", 5), at("c", 6)), list(movement(midnight+5, "A", "", "b"), movement(midnight+6, "A", "", "c"), movement(midnight+7, "A", "", "a"))},
		{"by kinds", book(at("a", 5, kind("D")), at("b", 5)), list(movement(midnight+5, "A", "", "b"), movement(midnight+5, "D", "", "a"))},
		{"by names", book(at("b", 5), at("a", 5), at("B", 5)), list(movement(midnight+5, "A", "", "B"), movement(midnight+5, "A", "", "a"), movement(midnight+5, "A", "", "b"))},
		{"of weekends", book(slot(request("a", "ab", 5, on(0, 9, 96), func(q *api.Request) { q.Seats, q.Size, q.Noise = 1, 2, 3 }), held("cd"))), list(
			api.Movement{Moment: 5, Kind: "A", Seats: 1, Size: 2, Noise: 3, Name: "a"},
			api.Movement{Moment: 1445, Kind: "A", Seats: 1, Size: 2, Noise: 3, Name: "a"},
			api.Movement{Moment: 1440*7 + 5, Kind: "A", Seats: 1, Size: 2, Noise: 3, Name: "a"},
			api.Movement{Moment: 1440*8 + 5, Kind: "A", Seats: 1, Size: 2, Noise: 3, Name: "a"},
		)},
	} {
		isList(t, "Movements: "+x.what, ok[[]api.Movement](t)(trade.Movements(x.b)), x.want)
		isList(t, "the model: "+x.what, allMovements(x.b), x.want)
	}
	many := ok[[]api.Movement](t)(trade.Movements(book(p(), q())))
	is(t, "movements of the examples", len(many), 20)
	is(t, "the second one", many[1], movement(12816610, "A", "", "q"))
	for _, b := range goodBooks() {
		isList(t, "Movements of a good book", ok[[]api.Movement](t)(trade.Movements(b)), allMovements(b))
	}
	isModel(t, "Movements", 11)
}

// P8.1: the holder of a slot, which is not always the carrier of its request.
func TestHolder(t *testing.T) {
	b := waiting(book(p(), q(held("gh"), leased(lease("ab", 8900, 8909)), shared("ef")), slot(request("P", "zz", 5))), wish(r(), 5))
	for slot, want := range map[string]string{"p": "ab", "q": "gh", "P": "zz"} {
		is(t, "Holder of "+slot, ok[string](t)(trade.Holder(b, slot)), want)
	}
	for _, slot := range append([]string{"r", "x", "pp", "ab"}, noNames...) {
		isError(t, "Holder of "+slot, ofCarrier(trade.Holder(b, slot)), api.ErrUnknown)
		isError(t, "Holder in an empty book of "+slot, ofCarrier(trade.Holder(trade.Book{}, slot)), api.ErrUnknown)
	}
	isModel(t, "Holder", 12, api.ErrUnknown)
}

// P8.1: the operator of a slot on each day.
func TestOperator(t *testing.T) {
	b := book(q(), p(leased(lease("gh", 8902, 8904), lease("ef", 8905, 8905), lease("gh", 8909, 8909)), shared("ij")))
	for day, want := range map[int]string{8900: "ab", 8901: "ab", 8902: "gh", 8903: "gh", 8904: "gh", 8905: "ef", 8906: "ab", 8908: "ab", 8909: "gh"} {
		is(t, fmt.Sprint("Operator on ", day), ok[string](t)(trade.Operator(b, "p", day)), want)
		is(t, fmt.Sprint("Operator of the other slot on ", day), ok[string](t)(trade.Operator(b, "q", day)), "cd")
	}
	for _, day := range []int{0, 8899, 8910, 99999} {
		isError(t, fmt.Sprint("Operator on ", day), ofCarrier(trade.Operator(b, "p", day)), api.ErrOutside)
	}
	for _, day := range noDays {
		isError(t, fmt.Sprint("Operator on ", day), ofCarrier(trade.Operator(b, "p", day)), api.ErrRange)
	}
	// Of these days, Tuesdays alone are days of the period: 8900 and 8907.
	tuesdays := book(p(asked(on(8899, 8909, 2)), leased(lease("gh", 8901, 8907))))
	for day := 8895; day < 8915; day++ {
		got, e := trade.Operator(tuesdays, "p", day)
		switch day {
		case 8900:
			isOutcome(t, "on the first Tuesday", ofCarrier(got, e), ofCarrier("ab", api.OK))
		case 8907:
			isOutcome(t, "on the second Tuesday", ofCarrier(got, e), ofCarrier("gh", api.OK))
		default:
			isError(t, fmt.Sprint("on another day ", day), ofCarrier(got, e), api.ErrOutside)
		}
	}
	isFirstFault(t, "Operator", example(), noSlot, noDay, fault{"a day that is not one of the period", api.ErrOutside, func(x *arguments) { x.day = 8910 }})
	isModel(t, "Operator", 13, api.ErrUnknown, api.ErrRange, api.ErrOutside)
}

// P8.1: slots and wishes are examined in their order, whatever stands behind the first error.
func TestFirstErrorOfBooks(t *testing.T) {
	x := noise(14)
	seen := 0
	for range 2000 {
		b := copyBook(x.someBook())
		for range x.next(4) {
			x.spoil(&b)
		}
		want := bookError(b)
		if want != api.OK {
			seen++
		}
		is(t, fmt.Sprint("CheckBook ", b), trade.CheckBook(b), want)
		for _, s := range b.Slots {
			is(t, fmt.Sprint("CheckSlot ", s), trade.CheckSlot(s), slotError(s))
		}
	}
	is(t, fmt.Sprint("some are spoiled: ", seen), seen > 500, true)
}

// spoil changes something of a book.
func (x *noise) spoil(b *trade.Book) {
	if i := x.next(len(b.Slots) + 1); i < len(b.Slots) {
		s := &b.Slots[i]
		switch x.next(8) {
		case 0:
			s.Request = pick(x, badRequests()...).value
		case 1:
			s.Holder = x.someText(someCarriers...)
		case 2:
			s.Request.Name = x.someText(someNames...)
		case 3:
			s.Request.Period.To -= x.next(3)
		case 4, 5:
			s.Leases = append(s.Leases, lease(pick(x, someCarriers...), 8900+x.next(9), 8900+x.next(9)))
		case 6:
			s.Shares = append(s.Shares, x.someText(someCarriers...))
		case 7:
			s.Leases = slices.Repeat(s.Leases, 3)
		}
	} else if i := x.next(len(b.Waiting) + 1); i < len(b.Waiting) {
		w := &b.Waiting[i]
		switch x.next(3) {
		case 0:
			w.Rank = x.someNumber(0, 3)
		case 1:
			w.Request.Name = x.someText(someNames...)
		case 2:
			w.Request = pick(x, badRequests()...).value
		}
	}
}
