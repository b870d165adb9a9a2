package trade_test

import (
	"fmt"
	"slices"
	"testing"

	"turnround/api"
	"turnround/capacity"
	"turnround/trade"
)

// arguments are arguments of all functions.
type arguments struct {
	limits  []capacity.Limit
	b       trade.Book
	q       api.Request
	w       trade.Wish
	carrier string
	slot    string
	other   string
	day     int
	minute  int
	l       trade.Lease
	slots   []string
	event   api.Event
}

// outcome is what functions return.
type outcome struct {
	b         trade.Book
	movements []api.Movement
	carrier   string
	served    []string
	refusals  []trade.Refusal
	index     int
	e         api.Errno
}

func ofError(e api.Errno) outcome { return outcome{e: e} }

func ofBook(b trade.Book, e api.Errno) outcome { return outcome{b: b, e: e} }

func ofCarrier(carrier string, e api.Errno) outcome { return outcome{carrier: carrier, e: e} }

func ofMovements(l []api.Movement, e api.Errno) outcome { return outcome{movements: l, e: e} }

func ofServed(b trade.Book, served []string, e api.Errno) outcome {
	return outcome{b: b, served: served, e: e}
}

func ofRefusals(l []trade.Refusal, e api.Errno) outcome { return outcome{refusals: l, e: e} }

func ofReplay(b trade.Book, index int, e api.Errno) outcome {
	return outcome{b: b, index: index, e: e}
}

// isOutcome compares outcomes; nil and empty lists are equal.
func isOutcome(t *testing.T, what string, got, want outcome) {
	t.Helper()
	if !equalOutcomes(got, want) {
		t.Errorf("%s: got %v, want %v", what, got, want)
	}
}

func equalOutcomes(a, b outcome) bool {
	return a.e == b.e && a.index == b.index && a.carrier == b.carrier && equalBooks(a.b, b.b) &&
		slices.Equal(a.movements, b.movements) && slices.Equal(a.served, b.served) && slices.Equal(a.refusals, b.refusals)
}

// isError checks that a function has an error, and zero values beside it.
func isError(t *testing.T, what string, got outcome, want api.Errno) {
	t.Helper()
	isOutcome(t, what, got, outcome{e: want})
}

// function is a function of the chapter: how it is called, and what it has to return for limits and a book without an error.
type function struct {
	name   string
	limits bool
	call   func(x arguments) outcome
	model  func(x arguments) outcome
}

// functions are those with a book.
var functions = []function{
	{"CheckBook", false,
		func(x arguments) outcome { return ofError(trade.CheckBook(x.b)) },
		func(x arguments) outcome { return outcome{} }},
	{"Movements", false,
		func(x arguments) outcome { return ofMovements(trade.Movements(x.b)) },
		func(x arguments) outcome { return outcome{movements: allMovements(x.b)} }},
	{"Holder", false,
		func(x arguments) outcome { return ofCarrier(trade.Holder(x.b, x.slot)) },
		func(x arguments) outcome { return ofCarrier(holderOf(x.b, x.slot)) }},
	{"Operator", false,
		func(x arguments) outcome { return ofCarrier(trade.Operator(x.b, x.slot, x.day)) },
		func(x arguments) outcome { return ofCarrier(operatorOf(x.b, x.slot, x.day)) }},
	{"Hold", true,
		func(x arguments) outcome { return ofBook(trade.Hold(x.limits, x.b, x.q)) },
		func(x arguments) outcome { return ofBook(hold(x.limits, x.b, x.q)) }},
	{"Back", false,
		func(x arguments) outcome { return ofBook(trade.Back(x.b, x.carrier, x.slot, x.day)) },
		func(x arguments) outcome { return ofBook(back(x.b, x.carrier, x.slot, x.day)) }},
	{"Swap", false,
		func(x arguments) outcome { return ofBook(trade.Swap(x.b, x.slot, x.other)) },
		func(x arguments) outcome { return ofBook(ring(x.b, list(x.slot, x.other))) }},
	{"Ring", false,
		func(x arguments) outcome { return ofBook(trade.Ring(x.b, x.slots)) },
		func(x arguments) outcome { return ofBook(ring(x.b, x.slots)) }},
	{"Transfer", false,
		func(x arguments) outcome { return ofBook(trade.Transfer(x.b, x.carrier, x.slot, x.other)) },
		func(x arguments) outcome { return ofBook(transfer(x.b, x.carrier, x.slot, x.other)) }},
	{"Lend", false,
		func(x arguments) outcome { return ofBook(trade.Lend(x.b, x.carrier, x.slot, x.l)) },
		func(x arguments) outcome { return ofBook(lend(x.b, x.carrier, x.slot, x.l)) }},
	{"Recall", false,
		func(x arguments) outcome { return ofBook(trade.Recall(x.b, x.carrier, x.slot, x.day)) },
		func(x arguments) outcome { return ofBook(recall(x.b, x.carrier, x.slot, x.day)) }},
	{"Share", false,
		func(x arguments) outcome { return ofBook(trade.Share(x.b, x.carrier, x.slot, x.other)) },
		func(x arguments) outcome { return ofBook(share(x.b, x.carrier, x.slot, x.other)) }},
	{"Retime", true,
		func(x arguments) outcome {
			return ofBook(trade.Retime(x.limits, x.b, x.carrier, x.slot, x.minute))
		},
		func(x arguments) outcome { return ofBook(retime(x.limits, x.b, x.carrier, x.slot, x.minute)) }},
	{"Wait", false,
		func(x arguments) outcome { return ofBook(trade.Wait(x.b, x.w)) },
		func(x arguments) outcome { return ofBook(wait(x.b, x.w)) }},
	{"Serve", true,
		func(x arguments) outcome { return ofServed(trade.Serve(x.limits, x.b)) },
		func(x arguments) outcome {
			b, served := serve(x.limits, x.b)
			return outcome{b: b, served: served}
		}},
	{"Refused", true,
		func(x arguments) outcome { return ofRefusals(trade.Refused(x.limits, x.b)) },
		func(x arguments) outcome { return outcome{refusals: refused(x.limits, x.b)} }},
	{"Apply", true,
		func(x arguments) outcome { return ofBook(trade.Apply(x.limits, x.b, x.event)) },
		func(x arguments) outcome { return ofBook(apply(x.limits, x.b, x.event)) }},
}

// functionOf returns the function with a name.
func functionOf(name string) function {
	return functions[slices.IndexFunc(functions, func(f function) bool { return f.name == name })]
}

// want returns what a function has to return for all arguments.
func (f function) want(x arguments) outcome {
	if f.limits {
		if e := capacity.CheckLimits(x.limits); e != api.OK {
			return ofError(e)
		}
	}
	if e := bookError(x.b); e != api.OK {
		return ofError(e)
	}
	return f.model(x)
}

// is checks that a function returns what it has to return, which is to have an error or OK.
func (f function) is(t *testing.T, what string, x arguments, e api.Errno) {
	t.Helper()
	what = f.name + ": " + what
	got, want := f.call(x), f.want(x)
	is(t, what+" by the model", want.e, e)
	isOutcome(t, what, got, want)
	if e != api.OK {
		isError(t, what, got, e)
	}
}

// fault is a change of arguments that gives a function an error, also with the faults of its function that stand behind it.
type fault struct {
	what   string
	e      api.Errno
	change func(x *arguments)
}

// isFirstFault checks that of some faults each one decides before all that stand behind it: they stand in the order in which the chapter names their errors, those of limits and of the book aside.
func isFirstFault(t *testing.T, name string, base arguments, faults ...fault) {
	t.Helper()
	f := functionOf(name)
	f.is(t, "no fault", base, api.OK)
	faults = append(beforeAll(f), faults...)
	for i, first := range faults {
		f.is(t, first.what, changed(base, first.change), first.e)
		for _, other := range faults[i:] {
			f.is(t, first.what+", and "+other.what, changed(base, other.change, first.change), first.e)
		}
		all := base
		for j := range faults[i:] {
			faults[len(faults)-1-j].change(&all)
		}
		f.is(t, first.what+", and all others", all, first.e)
	}
}

// beforeAll has faults of limits and of the book, which decide before those of all other arguments.
func beforeAll(f function) []fault {
	var faults []fault
	if f.limits {
		faults = append(faults, fault{"a limit without a kind", api.ErrKind, func(x *arguments) { x.limits = list(hour(ofKind(""))) }})
	}
	return append(faults,
		fault{"a slot of nobody", api.ErrName, func(x *arguments) {
			x.b = copyBook(x.b)
			x.b.Slots[0].Holder = ""
		}},
		fault{"a wish without a rank", api.ErrRange, func(x *arguments) { x.b.Waiting = list(wish(request("lost", "ab", 0), -1)) }},
	)
}

// noCarrier and the others are faults that several functions have.
var (
	noCarrier  = fault{"a carrier that is no name", api.ErrName, func(x *arguments) { x.carrier = "1a" }}
	noSlot     = fault{"an unknown slot", api.ErrUnknown, func(x *arguments) { x.slot = "unknown" }}
	noDay      = fault{"a day that is none", api.ErrRange, func(x *arguments) { x.day = 100000 }}
	noMinute   = fault{"a minute that is none", api.ErrRange, func(x *arguments) { x.minute = 1440 }}
	noOther    = fault{"another carrier that is no name", api.ErrName, func(x *arguments) { x.other = "1a" }}
	notHolder  = fault{"a carrier that is not the holder", api.ErrHolder, func(x *arguments) { x.carrier = "zz" }}
	withHolder = fault{"the holder as the other carrier", api.ErrHolder, func(x *arguments) { x.other = "ab" }}
	isLeased   = fault{"a lease", api.ErrState, func(x *arguments) {
		x.b = changedSlot(x.b, "p", leased(lease("gh", 8902, 8904)))
	}}
)

// changedSlot returns a book with changes of a slot.
func changedSlot(b trade.Book, name string, changes ...func(*trade.Slot)) trade.Book {
	c := copyBook(b)
	if i := indexOf(c, name); i >= 0 {
		c.Slots[i] = changed(c.Slots[i], changes...)
	}
	return c
}

// example has arguments with which each function has no error: the book has the slots p, q and s of the chapter's examples.
func example() arguments {
	return arguments{
		limits: list(hour()), b: book(p(), q(), s()), q: request("r", "ef", 720), w: wish(r(), 5),
		carrier: "ab", slot: "p", other: "gh", day: 8905, minute: 605, l: lease("gh", 8902, 8904), slots: list("p", "q", "s"),
		event: api.Event{Number: 1, Kind: "serve"},
	}
}

// isModel calls a function with random arguments, and checks that it has had each one of some errors several times.
func isModel(t *testing.T, name string, seed noise, errs ...api.Errno) {
	t.Helper()
	f := functionOf(name)
	seen := map[api.Errno]int{}
	x := seed
	for range 2000 {
		args := x.someArguments()
		want := f.want(args)
		seen[want.e]++
		isOutcome(t, fmt.Sprint(name, " of ", args), f.call(args), want)
		if t.Failed() {
			return
		}
	}
	for _, e := range append(errs, api.OK) {
		is(t, fmt.Sprint(name, " has had the error ", e, " several times: ", seen), seen[e] >= 5, true)
	}
}
