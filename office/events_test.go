package office_test

import (
	"fmt"
	"math"
	"slices"
	"strings"
	"testing"

	"turnround/api"
	"turnround/office"
)

// oneOfEach has an event of each kind.
func oneOfEach() []api.Event {
	return list(enter("e", "a", 5, 10, 20, 600), rule("r", "a", 7, 15, 20, 660), follow("f", "b", "r", 8, 15, 20, 700), reverse("r", 9), complain("c", "e", 10), decide("c", 11, 1))
}

// P10.1: events on the edges of what is permitted have no error by themselves.
func TestGoodEvents(t *testing.T) {
	for _, e := range oneOfEach() {
		is(t, "CheckEvent of "+e.Kind, office.CheckEvent(e), api.OK)
		for _, n := range []int{1, 2, 999, 1000} {
			e.Number = n
			is(t, fmt.Sprint("CheckEvent of ", e), office.CheckEvent(e), api.OK)
		}
		for _, s := range names {
			for i := range e.Names {
				x := copyEvent(e)
				x.Names[i] = s
				is(t, fmt.Sprint("CheckEvent of ", x), office.CheckEvent(x), api.OK)
			}
		}
		// What the values mean does not matter yet.
		for _, n := range []int{0, 1, 1441, 99999, 100000, 999999999} {
			for i := range e.Values {
				x := copyEvent(e)
				x.Values[i] = n
				is(t, fmt.Sprint("CheckEvent of ", x), office.CheckEvent(x), api.OK)
			}
		}
	}
}

// P10.1: each error of an event by itself, also with all later ones beside it.
func TestBadEvents(t *testing.T) {
	bad := func(what string, e api.Event, want api.Errno) {
		t.Helper()
		is(t, "CheckEvent with "+what, office.CheckEvent(e), want)
	}
	for _, e := range oneOfEach() {
		worse := changed(e, func(e *api.Event) {
			e.Names, e.Values, e.Text = slices.Repeat(list(""), len(e.Names)), slices.Repeat(list(-1), len(e.Values)), "x"
		})
		for _, n := range []int{math.MinInt, -1, 0, 1001, math.MaxInt} {
			bad(fmt.Sprint("the number ", n), changed(e, func(e *api.Event) { e.Number = n }), api.ErrRange)
			bad(fmt.Sprint("the number and more ", n), api.Event{Number: n, Kind: "x", Text: "x"}, api.ErrRange)
		}
		for _, kind := range []string{"", " ", "Enter", "enter ", " enter", "ente", "enters", "note", "slot", "done", "\x00", "\xff"} {
			bad("the kind "+kind, changed(e, func(e *api.Event) { e.Kind = kind }), api.ErrKind)
			bad("the kind and more "+kind, changed(worse, func(e *api.Event) { e.Kind, e.Names = kind, nil }), api.ErrKind)
		}
		for n := range 6 {
			other := changed(worse, func(e *api.Event) { e.Names = slices.Repeat(list("a"), n) })
			if n != len(e.Names) {
				bad(fmt.Sprint(n, " names"), changed(e, func(e *api.Event) { e.Names = other.Names }), api.ErrShape)
				bad(fmt.Sprint("more, and names ", n), other, api.ErrShape)
			}
			other = changed(worse, func(e *api.Event) { e.Values = slices.Repeat(list(1), n) })
			if n != len(e.Values) {
				bad(fmt.Sprint(n, " values"), changed(e, func(e *api.Event) { e.Values = other.Values }), api.ErrShape)
				bad(fmt.Sprint("more, and values ", n), other, api.ErrShape)
			}
		}
		for i := range e.Names {
			for _, s := range noNames {
				x := copyEvent(e)
				x.Names[i] = s
				bad(fmt.Sprint("the name ", i, s), x, api.ErrName)
				x.Values, x.Text = worse.Values, "x"
				bad(fmt.Sprint("the name and more ", i, s), x, api.ErrName)
			}
		}
		for i := range e.Values {
			for _, n := range []int{math.MinInt, -1, 1000000000, math.MaxInt} {
				x := copyEvent(e)
				x.Values[i] = n
				bad(fmt.Sprint("the value ", i, n), x, api.ErrRange)
				x.Text = "x"
				bad(fmt.Sprint("the value and a text ", i, n), x, api.ErrRange)
			}
		}
		for _, s := range []string{" ", "x", "\x00", "\n", "a b", strings.Repeat("x", 5000)} {
			bad("the text "+s, changed(e, func(e *api.Event) { e.Text = s }), api.ErrForm)
		}
	}
}

// P10.1: the registers after each event of the chapter's examples.
func TestRegisters(t *testing.T) {
	e := office.Entry{Name: "e", Kind: "enter", Series: "a", Known: 5, From: 10, To: 20, Minute: 600}
	r := office.Entry{Name: "r", Kind: "rule", Series: "a", Known: 7, From: 15, To: 20, Minute: 660}
	f := office.Entry{Name: "f", Kind: "follow", Series: "b", Base: "r", Known: 8, From: 15, To: 20, Minute: 700}
	c := office.Complaint{Name: "c", Entry: "e", Known: 10}
	reversed, upheld := office.Removal{Entry: "r", Known: 9}, office.Removal{Entry: "e", Known: 11}
	after := func(what string, l []api.Event, want office.Register) {
		t.Helper()
		isOutcome(t, "Replay "+what, ofReplay(office.Replay(l)), outcome{r: want})
	}
	for i, want := range []office.Register{
		{},
		{Known: 5, Entries: list(e)},
		{Known: 7, Entries: list(e, r)},
		{Known: 8, Entries: list(e, r, f)},
		{Known: 9, Entries: list(e, r, f), Removals: list(reversed)},
		{Known: 10, Entries: list(e, r, f), Removals: list(reversed), Complaints: list(c)},
		{Known: 11, Entries: list(e, r, f), Removals: list(reversed, upheld), Complaints: list(changed(c, closed(true)))},
	} {
		after(fmt.Sprint(i, " events"), chapter(i), want)
	}
	after("of a rejected complaint", then(chapter(1), complain("c", "e", 10), decide("c", 12, 0)), office.Register{Known: 12, Entries: list(e), Complaints: list(changed(c, closed(false)))})
	d := office.Complaint{Name: "d", Entry: "e", Known: 10}
	both := then(chapter(1), complain("c", "e", 10), complain("d", "e", 10), decide("d", 11, 1))
	after("of two complaints about one entry", both, office.Register{Known: 11, Entries: list(e), Removals: list(upheld), Complaints: list(c, changed(d, closed(true)))})
	after("of two complaints that are upheld", then(both, decide("c", 11, 1)), office.Register{Known: 11, Entries: list(e), Removals: list(upheld, upheld), Complaints: list(changed(c, closed(true)), changed(d, closed(true)))})
	after("of the day 0", numbered(enter("e", "a", 0, 0, 0, 0)), office.Register{Entries: list(office.Entry{Name: "e", Kind: "enter", Series: "a"})})
	last := enter("e", "a", 99999, 99999, 99999, 1440)
	after("of the last day", numbered(last), office.Register{Known: 99999, Entries: list(office.Entry{Name: "e", Kind: "enter", Series: "a", Known: 99999, From: 99999, To: 99999, Minute: 1440})})
}

func closed(upheld bool) func(*office.Complaint) {
	return func(c *office.Complaint) { c.Closed, c.Upheld = true, upheld }
}

// accepts has the chapter's first four events, and an event behind them.
func accepts(l []api.Event, e api.Event) arguments {
	e.Number = len(l) + 1
	return arguments{l: l, e: e}
}

func ofNumber(n int) func(x *arguments) { return func(x *arguments) { x.e.Number = n } }

// withName is an event with another name at a place, if it has one there.
func withName(i int, s string) func(x *arguments) {
	return func(x *arguments) {
		x.e.Names = slices.Clone(x.e.Names)
		if i < len(x.e.Names) {
			x.e.Names[i] = s
		}
	}
}

// withValue is an event with another value at a place, if it has one there.
func withValue(i, n int) func(x *arguments) {
	return func(x *arguments) {
		x.e.Values = slices.Clone(x.e.Values)
		if i < len(x.e.Values) {
			x.e.Values[i] = n
		}
	}
}

// after has other events before an event with the number behind them.
func after(l []api.Event) func(x *arguments) {
	return func(x *arguments) { x.l, x.e.Number = l, len(l)+1 }
}

// generalFaults are those that an event of each kind may have, in order.
func generalFaults() []fault {
	return list(
		manyEvents, oddEvent,
		fault{"an event of a list that is not accepted", api.ErrTwice, func(x *arguments) { x.l = then(chapter(1), chapter(1)...) }},
		fault{"no number", api.ErrRange, ofNumber(0)},
		fault{"a large number", api.ErrRange, ofNumber(1001)},
		fault{"no kind", api.ErrKind, func(x *arguments) { x.e.Kind = "show" }},
		fault{"too few names", api.ErrShape, func(x *arguments) { x.e.Names = nil }},
		fault{"too many values", api.ErrShape, func(x *arguments) { x.e.Values = make([]int, 5) }},
		fault{"no name", api.ErrName, withName(0, "")},
		fault{"no value", api.ErrRange, withValue(0, -1)},
		fault{"a text", api.ErrForm, func(x *arguments) { x.e.Text = "x" }},
		fault{"the number of the last event", api.ErrOrder, func(x *arguments) { x.e.Number = len(x.l) }},
		fault{"a number left out", api.ErrOrder, func(x *arguments) { x.e.Number = min(len(x.l)+2, 1000) }},
		fault{"known before the last event", api.ErrState, withValue(0, 4)},
		fault{"known after the last day", api.ErrRange, withValue(0, 100000)},
	)
}

// full has 256 entries, of which n0 is a ruling that is reversed.
func full() []api.Event {
	all := entries(256)
	all[0].Kind = "rule"
	return then(all, reverse("n0", 5))
}

// P10.1: of the errors with which an entry is not accepted the first one decides.
func TestFirstErrorOfEntries(t *testing.T) {
	for _, e := range list(enter("g", "a", 9, 10, 20, 600), rule("g", "a", 9, 10, 20, 600), follow("g", "a", "e", 9, 10, 20, 600)) {
		faults := append(generalFaults(),
			fault{"a name that is there", api.ErrTwice, func(x *arguments) { withName(0, x.l[0].Names[0])(x) }},
			fault{"256 entries", api.ErrMany, after(full())},
		)
		if e.Kind == "follow" {
			faults = append(faults,
				fault{"an unknown base", api.ErrUnknown, withName(2, "unknown")},
				fault{"itself as its base", api.ErrUnknown, withName(2, "g")},
				fault{"a base that is reversed", api.ErrOver, withName(2, "r")},
				fault{"a base that rests on one that is reversed", api.ErrOver, withName(2, "f")},
			)
		}
		faults = append(faults,
			fault{"from after the last day", api.ErrRange, withValue(1, 100000)},
			fault{"to after the last day", api.ErrRange, withValue(2, 100000)},
			fault{"a minute after the last one", api.ErrRange, withValue(3, 1441)},
			fault{"to before from", api.ErrOrder, withValue(2, 9)},
			fault{"to the first day", api.ErrOrder, withValue(2, 0)},
		)
		isFirstFault(t, "Accepts", accepts(chapter(4), e), faults...)
	}
}

// P10.1: of the errors with which a reversal is not accepted the first one decides.
func TestFirstErrorOfReversals(t *testing.T) {
	l := then(chapter(4), rule("q", "a", 9, 10, 20, 600), complain("c", "e", 9), decide("c", 9, 1))
	isFirstFault(t, "Accepts", accepts(l, reverse("q", 9)), append(generalFaults(),
		fault{"an unknown entry", api.ErrUnknown, withName(0, "unknown")},
		fault{"a complaint", api.ErrUnknown, withName(0, "c")},
		fault{"a series", api.ErrUnknown, withName(0, "a")},
		fault{"an entry that does not count", api.ErrKind, withName(0, "e")},
		fault{"an entry that rests on a ruling that is reversed", api.ErrKind, withName(0, "f")},
		fault{"a ruling that is reversed", api.ErrOver, withName(0, "r")},
	)...)
	isFirstFault(t, "Accepts", accepts(chapter(3), reverse("r", 8)), append(generalFaults(), fault{"an entry that counts", api.ErrKind, withName(0, "e")})...)
}

// P10.1: of the errors with which a complaint is not accepted the first one decides.
func TestFirstErrorOfComplaints(t *testing.T) {
	l := then(chapter(4), complain("c", "e", 9))
	isFirstFault(t, "Accepts", accepts(l, complain("d", "e", 9)), append(generalFaults(),
		fault{"a name that is there", api.ErrTwice, func(x *arguments) { withName(0, complaintsOf(x.l)[0].Name)(x) }},
		fault{"64 complaints", api.ErrMany, after(then(complaints(64), rule("r", "a", 5, 5, 5, 5), follow("f", "a", "r", 5, 5, 5, 5), reverse("r", 5)))},
		fault{"an unknown entry", api.ErrUnknown, withName(1, "unknown")},
		fault{"another complaint", api.ErrUnknown, withName(1, "c")},
		fault{"an entry that is reversed", api.ErrOver, withName(1, "r")},
		fault{"an entry that rests on one that is reversed", api.ErrOver, withName(1, "f")},
	)...)
}

// P10.1: of the errors with which a decision is not accepted the first one decides.
func TestFirstErrorOfDecisions(t *testing.T) {
	l := then(chapter(4), complain("c", "e", 9), complain("d", "e", 9), decide("d", 9, 0))
	for outcome := range 2 {
		isFirstFault(t, "Accepts", accepts(l, decide("c", 9, outcome)), append(generalFaults(),
			fault{"an unknown complaint", api.ErrUnknown, withName(0, "unknown")},
			fault{"an entry", api.ErrUnknown, withName(0, "e")},
			fault{"a complaint that is decided", api.ErrOver, withName(0, "d")},
			fault{"no outcome", api.ErrRange, withValue(1, 2)},
			fault{"a large outcome", api.ErrRange, withValue(1, 999999999)},
		)...)
	}
}

// P10.1: what is accepted on the edges.
func TestAccepted(t *testing.T) {
	good := func(what string, l []api.Event, e api.Event) {
		t.Helper()
		functionOf("Accepts").is(t, what, accepts(l, e), api.OK)
	}
	for _, x := range []struct{ known, from, to, minute int }{{9, 0, 0, 0}, {9, 0, 99999, 1440}, {99999, 99999, 99999, 1439}, {10, 20, 20, 1440}} {
		good(fmt.Sprint("an entry ", x), chapter(4), enter("g", "a", x.known, x.from, x.to, x.minute))
		good(fmt.Sprint("a ruling ", x), chapter(4), rule("g", "a", x.known, x.from, x.to, x.minute))
		good(fmt.Sprint("another entry ", x), chapter(4), follow("g", "a", "e", x.known, x.from, x.to, x.minute))
	}
	good("known on the day 0", nil, enter("g", "a", 0, 10, 20, 600))
	good("the 256th entry", entries(255), enter("g", "a", 5, 10, 20, 600))
	good("the 64th complaint", complaints(63), complain("c", "e", 5))
	good("a complaint with the name of an entry", chapter(1), complain("e", "e", 5))
	good("an entry with the name of a complaint and of a series", chapter(5), enter("c", "e", 10, 1, 2, 3))
	good("an entry with the name of its series", chapter(1), enter("g", "g", 5, 1, 2, 3))
	good("a complaint about a ruling", chapter(2), complain("c", "r", 7))
	good("a complaint about an entry that rests", chapter(3), complain("c", "f", 8))
	good("another complaint about an entry", chapter(5), complain("d", "e", 10))
	good("a decision of a complaint whose entry does not count", then(chapter(3), complain("c", "f", 8), reverse("r", 8)), decide("c", 8, 1))
	good("a decision of a complaint whose entry is removed", then(chapter(5), complain("d", "e", 10), decide("c", 10, 1)), decide("d", 10, 1))
	good("a base that rests on another one", chapter(3), follow("g", "b", "f", 8, 1, 2, 3))
	good("the reversal of a ruling after a complaint that was rejected", then(chapter(3), complain("c", "r", 8), decide("c", 8, 0)), reverse("r", 8))
	good("the reversal of another ruling", then(chapter(4), rule("q", "a", 9, 1, 2, 3)), reverse("q", 9))
}

// P10.1: an entry does not count from the very day on which its removal is known.
func TestRemovedOnTheDay(t *testing.T) {
	for _, x := range []struct {
		what string
		l    []api.Event
		e    api.Event
		want api.Errno
	}{
		{"a follow on the day of the reversal", chapter(4), follow("g", "a", "r", 9, 1, 2, 3), api.ErrOver},
		{"a follow of a follow on the day of the reversal", chapter(4), follow("g", "a", "f", 9, 1, 2, 3), api.ErrOver},
		{"a follow long after it", chapter(4), follow("g", "a", "r", 900, 1, 2, 3), api.ErrOver},
		{"a follow of an entry with an upheld complaint", chapter(6), follow("g", "a", "e", 11, 1, 2, 3), api.ErrOver},
		{"the reversal again", chapter(4), reverse("r", 9), api.ErrOver},
		{"the reversal of a ruling with an upheld complaint", then(chapter(2), complain("c", "r", 7), decide("c", 7, 1)), reverse("r", 7), api.ErrOver},
		{"a complaint about an entry with another one upheld", chapter(6), complain("d", "e", 11), api.ErrOver},
		{"a complaint that is decided again", chapter(6), decide("c", 11, 0), api.ErrOver},
		{"a follow before the reversal", chapter(3), follow("g", "a", "r", 8, 1, 2, 3), api.OK},
	} {
		functionOf("Accepts").is(t, x.what, accepts(x.l, x.e), x.want)
	}
}

// P10.1: Replay returns the number of the first event with an error, from 1 on, and 0 for too many events.
func TestReplayErrors(t *testing.T) {
	refused := func(what string, l []api.Event, at int, e api.Errno) {
		t.Helper()
		isOutcome(t, "Replay with "+what, ofReplay(office.Replay(l)), outcome{at: at, e: e})
	}
	refused("1001 events", make([]api.Event, 1001), 0, api.ErrMany)
	refused("1001 events, the first ones without an error", append(entries(256), make([]api.Event, 745)...), 0, api.ErrMany)
	refused("1000 events without a number", make([]api.Event, 1000), 1, api.ErrRange)
	refused("one event too many", append(entries(256), make([]api.Event, 744)...), 257, api.ErrRange)
	for n := range 6 {
		for _, number := range []int{n, n + 2, 1000} {
			e := changed(oneOfEach()[n], func(e *api.Event) { e.Number = number })
			want := api.ErrOrder
			if number == 0 {
				want = api.ErrRange
			}
			refused(fmt.Sprint("the number ", number, " at ", n+1), append(chapter(n), e, api.Event{}), n+1, want)
		}
		refused(fmt.Sprint("no kind at ", n+1), append(chapter(n), api.Event{Number: n + 1, Text: "x"}), n+1, api.ErrKind)
		refused(fmt.Sprint("a text at ", n+1), append(chapter(n), changed(oneOfEach()[n], func(e *api.Event) { e.Number, e.Text = n+1, "x" })), n+1, api.ErrForm)
		refused(fmt.Sprint("known too late at ", n+1), then(chapter(n), changed(copyEvent(oneOfEach()[n]), func(e *api.Event) { e.Values[0] = 100000 })), n+1, api.ErrRange)
	}
	refused("the first one known too early", then(chapter(6), enter("x", "a", 10, 1, 1, 1)), 7, api.ErrState)
	refused("the second one of two errors", then(chapter(1), reverse("e", 5), chapter(1)[0]), 2, api.ErrKind)
	refused("the third one of three", then(chapter(2), reverse("e", 7), reverse("e", 7)), 3, api.ErrKind)
	refused("257 entries", entries(257), 257, api.ErrMany)
	refused("65 complaints", complaints(65), 66, api.ErrMany)
}

// P10.1: replays and single events against the definitions.
func TestRegisterModels(t *testing.T) {
	isModel(t, "CheckEvent", 11, api.ErrRange, api.ErrKind, api.ErrShape, api.ErrName)
	isModel(t, "Replay", 12, api.ErrOrder, api.ErrState)
	isModel(t, "Accepts", 13, api.ErrRange, api.ErrKind, api.ErrShape, api.ErrName, api.ErrOrder, api.ErrState, api.ErrTwice, api.ErrUnknown, api.ErrOver)
}

// P10.1: as many events as there can be.
func TestMostEvents(t *testing.T) {
	l := most()
	is(t, "events", len(l), 640)
	r, at, e := office.Replay(l)
	isOutcome(t, "Replay of the most events", ofReplay(r, at, e), outcome{r: registerOf(l)})
	is(t, "removals", len(r.Removals), 320)
	for _, e := range list(enter("x", "a", 9, 1, 1, 1), complain("x", "n0", 9), reverse("n0", 9), decide("c0", 9, 0)) {
		x := accepts(l, e)
		functionOf("Accepts").is(t, "an event behind them", x, acceptError(x.l, x.e))
	}
}

// most has the most events that there can be: 256 rulings, 64 complaints, which are all upheld, and all reversals before that.
func most() []api.Event {
	all := entries(256)
	for i := range all {
		all[i].Kind = "rule"
	}
	for i := range 64 {
		all = append(all, complain(fmt.Sprint("c", i), fmt.Sprint("n", i), 6))
	}
	for i := range 256 {
		all = append(all, reverse(fmt.Sprint("n", i), 7))
	}
	for i := range 64 {
		all = append(all, decide(fmt.Sprint("c", i), 8, 1))
	}
	return numbered(all...)
}
