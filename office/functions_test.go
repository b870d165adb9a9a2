package office_test

import (
	"fmt"
	"slices"
	"testing"

	"turnround/api"
	"turnround/office"
)

// arguments are arguments of all functions.
type arguments struct {
	l      []api.Event
	e      api.Event
	series string
	entry  string
	known  int
	other  int
	day    int
	p      api.Period
	notes  []office.Note
	log    string
}

// outcome is what functions return.
type outcome struct {
	r       office.Register
	at      int
	names   []string
	minute  int
	slots   []office.Slot
	turns   []office.Turn
	days    []int
	notes   []office.Note
	missing []office.Missing
	log     string
	events  []api.Event
	e       api.Errno
}

func ofError(e api.Errno) outcome { return outcome{e: e} }

func ofReplay(r office.Register, at int, e api.Errno) outcome { return outcome{r: r, at: at, e: e} }

func ofNames(names []string, e api.Errno) outcome { return outcome{names: names, e: e} }

func ofMinute(minute int, e api.Errno) outcome { return outcome{minute: minute, e: e} }

func ofSlots(l []office.Slot, e api.Errno) outcome { return outcome{slots: l, e: e} }

func ofTurns(l []office.Turn, e api.Errno) outcome { return outcome{turns: l, e: e} }

func ofDays(l []int, e api.Errno) outcome { return outcome{days: l, e: e} }

func ofNotes(l []office.Note, e api.Errno) outcome { return outcome{notes: l, e: e} }

func ofMissing(l []office.Missing, e api.Errno) outcome { return outcome{missing: l, e: e} }

func ofLog(log string, e api.Errno) outcome { return outcome{log: log, e: e} }

func ofRecover(l []api.Event, length int, e api.Errno) outcome {
	return outcome{events: l, at: length, e: e}
}

// isOutcome compares outcomes; nil and empty lists are equal.
func isOutcome(t *testing.T, what string, got, want outcome) {
	t.Helper()
	if !equalOutcomes(got, want) {
		t.Errorf("%s: got %v, want %v", what, got, want)
	}
}

func equalOutcomes(a, b outcome) bool {
	return a.e == b.e && a.at == b.at && a.minute == b.minute && a.log == b.log && equalRegisters(a.r, b.r) &&
		slices.Equal(a.names, b.names) && slices.Equal(a.slots, b.slots) && slices.Equal(a.turns, b.turns) &&
		slices.Equal(a.days, b.days) && slices.Equal(a.notes, b.notes) && slices.EqualFunc(a.missing, b.missing, equalMissing) &&
		slices.EqualFunc(a.events, b.events, equalEvents)
}

func equalMissing(a, b office.Missing) bool {
	return a.Desk == b.Desk && slices.Equal(a.Numbers, b.Numbers)
}

// isError checks that a function has an error, and zero values beside it.
func isError(t *testing.T, what string, got outcome, want api.Errno) {
	t.Helper()
	isOutcome(t, what, got, outcome{e: want})
}

// function is a function of the chapter: how it is called, and what it has to return.
type function struct {
	name  string
	call  func(x arguments) outcome
	model func(x arguments) outcome
}

// asked is a function with a question about events: its model is for arguments without an error.
func asked(name string, call func(x arguments) outcome, wrong func(x arguments) api.Errno, model func(x arguments) outcome) function {
	return function{name, call, func(x arguments) outcome {
		if _, e := replayError(x.l); e != api.OK {
			return ofError(e)
		}
		if e := wrong(x); e != api.OK {
			return ofError(e)
		}
		return model(x)
	}}
}

// first returns the first error.
func first(errs ...api.Errno) api.Errno {
	for _, e := range errs {
		if e != api.OK {
			return e
		}
	}
	return api.OK
}

func nameError(s string) api.Errno {
	if !isName(s) {
		return api.ErrName
	}
	return api.OK
}

func dayError(day int) api.Errno {
	if !isDay(day) {
		return api.ErrRange
	}
	return api.OK
}

// functions are all but those of the console.
var functions = []function{
	{"CheckEvent",
		func(x arguments) outcome { return ofError(office.CheckEvent(x.e)) },
		func(x arguments) outcome { return ofError(eventError(x.e)) }},
	{"Replay",
		func(x arguments) outcome { return ofReplay(office.Replay(x.l)) },
		func(x arguments) outcome {
			if at, e := replayError(x.l); e != api.OK {
				return outcome{at: at, e: e}
			}
			return outcome{r: registerOf(x.l)}
		}},
	{"Accepts",
		func(x arguments) outcome { return ofError(office.Accepts(x.l, x.e)) },
		func(x arguments) outcome {
			if _, e := replayError(x.l); e != api.OK {
				return ofError(e)
			}
			return ofError(acceptError(x.l, x.e))
		}},
	asked("Counting",
		func(x arguments) outcome { return ofNames(office.Counting(x.l, x.known)) },
		func(x arguments) api.Errno { return dayError(x.known) },
		func(x arguments) outcome { return outcome{names: countingNames(x.l, x.known)} }),
	asked("Resting",
		func(x arguments) outcome { return ofNames(office.Resting(x.l, x.entry)) },
		func(x arguments) api.Errno {
			if _, isThere := entryOf(x.l, x.entry); isName(x.entry) && !isThere {
				return api.ErrUnknown
			}
			return nameError(x.entry)
		},
		func(x arguments) outcome { return outcome{names: restingNames(x.l, x.entry)} }),
	asked("Minute",
		func(x arguments) outcome { return ofMinute(office.Minute(x.l, x.series, x.known, x.day)) },
		func(x arguments) api.Errno { return first(nameError(x.series), dayError(x.known), dayError(x.day)) },
		func(x arguments) outcome { return outcome{minute: minuteOf(x.l, x.series, x.known, x.day)} }),
	asked("AsOf",
		func(x arguments) outcome { return ofSlots(office.AsOf(x.l, x.known, x.day)) },
		func(x arguments) api.Errno { return first(dayError(x.known), dayError(x.day)) },
		func(x arguments) outcome { return outcome{slots: slotsAsOf(x.l, x.known, x.day)} }),
	asked("History",
		func(x arguments) outcome { return ofTurns(office.History(x.l, x.series, x.day)) },
		func(x arguments) api.Errno { return first(nameError(x.series), dayError(x.day)) },
		func(x arguments) outcome { return outcome{turns: historyOf(x.l, x.series, x.day)} }),
	asked("Differences",
		func(x arguments) outcome {
			return ofDays(office.Differences(x.l, x.series, x.known, x.other, x.p))
		},
		func(x arguments) api.Errno {
			return first(nameError(x.series), dayError(x.known), dayError(x.other), periodError(x.p))
		},
		func(x arguments) outcome {
			return outcome{days: differencesOf(x.l, x.series, x.known, x.other, x.p)}
		}),
	{"CheckNotes",
		func(x arguments) outcome { return ofError(office.CheckNotes(x.notes)) },
		func(x arguments) outcome { return ofError(notesError(x.notes)) }},
	{"Gather",
		func(x arguments) outcome { return ofNotes(office.Gather(x.notes)) },
		func(x arguments) outcome {
			if e := notesError(x.notes); e != api.OK {
				return ofError(e)
			}
			return outcome{notes: collected(x.notes)}
		}},
	{"Lacking",
		func(x arguments) outcome { return ofMissing(office.Lacking(x.notes)) },
		func(x arguments) outcome {
			if e := notesError(x.notes); e != api.OK {
				return ofError(e)
			}
			return ofMissing(lacking(x.notes))
		}},
	{"Append",
		func(x arguments) outcome { return ofLog(office.Append(x.log, x.e)) },
		func(x arguments) outcome {
			events, _, e := recovered(x.log)
			switch e = first(e, eventError(x.e)); {
			case e != api.OK:
				return ofError(e)
			case x.e.Number != len(events)+1:
				return ofError(api.ErrOrder)
			}
			return outcome{log: x.log + sealed(body(x.e))}
		}},
	{"Recover",
		func(x arguments) outcome { return ofRecover(office.Recover(x.log)) },
		func(x arguments) outcome { return ofRecover(recovered(x.log)) }},
}

// functionOf returns the function with a name.
func functionOf(name string) function {
	return functions[slices.IndexFunc(functions, func(f function) bool { return f.name == name })]
}

// is checks that a function returns what it has to return, which is to have an error or OK.
func (f function) is(t *testing.T, what string, x arguments, e api.Errno) {
	t.Helper()
	what = f.name + ": " + what
	got, want := f.call(x), f.model(x)
	is(t, what+" by the model", want.e, e)
	isOutcome(t, what, got, want)
}

// example has arguments with which each function has no error.
func example() arguments {
	return arguments{
		l: chapter(4), e: changed(enter("g", "a", 9, 10, 20, 600), func(e *api.Event) { e.Number = 5 }),
		series: "a", entry: "r", known: 8, other: 9, day: 16, p: everyDay,
		notes: list(note("T", 4, 3, "a"), note("T", 1, 4, "c"), note("N", 2, 3, "b"), note("T", 4, 3, "a")), log: logOf(chapter(4)...),
	}
}

// fault is a change of arguments that gives a function an error, also with the faults of its function that stand behind it.
type fault struct {
	what   string
	e      api.Errno
	change func(x *arguments)
}

// isFirstFault checks that of some faults each one decides before all that stand behind it: they stand in the order in which the chapter names their errors.
func isFirstFault(t *testing.T, name string, base arguments, faults ...fault) {
	t.Helper()
	f := functionOf(name)
	f.is(t, "no fault", base, api.OK)
	for i, first := range faults {
		f.is(t, first.what, changed(base, first.change), first.e)
		for _, other := range faults[i:] {
			f.is(t, first.what+", and "+other.what, changed(base, other.change, first.change), first.e)
		}
		all := base
		for j := range faults[i:] {
			faults[len(faults)-1-j].change(&all)
		}
		f.is(t, first.what+", and all others", all, first.e)
	}
}

// manyEvents and the others are faults that several functions have.
var (
	manyEvents = fault{"1001 events", api.ErrMany, func(x *arguments) { x.l = make([]api.Event, 1001) }}
	oddEvent   = fault{"an event without a kind", api.ErrKind, func(x *arguments) { x.l = then(list(event("", nil)), x.l...) }}
	lateEvent  = fault{"an event that is not accepted", api.ErrOver, func(x *arguments) { x.l = then(x.l, reverse("r", 9)) }}
	noSeries   = fault{"a series that is no name", api.ErrName, func(x *arguments) { x.series = "1a" }}
	notKnown   = fault{"a day of knowledge that is none", api.ErrRange, func(x *arguments) { x.known = 100000 }}
	notOther   = fault{"another day of knowledge that is none", api.ErrRange, func(x *arguments) { x.other = -1 }}
	noDay      = fault{"a day that is none", api.ErrRange, func(x *arguments) { x.day = 100000 }}
)

// someArguments has events that are accepted and arguments about them, now and then with an error.
func (x *noise) someArguments() arguments {
	l := x.someEvents(x.next(30))
	a := arguments{
		l: l, e: x.nextEvent(l), series: pick(x, someSeries...), entry: pick(x, someEntries...),
		known: x.next(30), other: x.next(30), day: x.next(50),
		p:     api.Period{From: x.next(20), To: 20 + x.next(30), Days: 1 + x.next(127)},
		notes: x.someNotes(), log: logOf(l...),
	}
	if there := entriesOf(l); len(there) > 0 {
		a.entry = pick(x, there...).Name
	}
	for range x.next(4) / 3 * 2 {
		x.spoil(&a)
	}
	return a
}

// spoil gives an argument an error, most of the time.
func (x *noise) spoil(a *arguments) {
	day := pick(x, -1, 100000, 99999, 0)
	switch x.next(12) {
	case 0:
		a.l = then(a.l, x.nextEvent(nil))
	case 1:
		a.l = slices.Concat(a.l, list(x.nextEvent(nil)))
	case 2:
		a.e.Number = x.next(30)
	case 3:
		a.e.Names = append(a.e.Names[1:], pick(x, "1", "e", "r", "x", "c"))
	case 4:
		a.e.Values = append(a.e.Values[1:], pick(x, -1, 0, 2, 1441, 100000, 1000000000))
	case 5:
		a.e.Kind = pick(x, "enter", "rule", "follow", "reverse", "complain", "decide", "note")
	case 6:
		a.series, a.entry = pick(x, "", "zz"), pick(x, "", "zz")
	case 7:
		a.known = day
	case 8:
		a.other = day
	case 9:
		a.day = day
	case 10:
		a.p.To = pick(x, -1, 5, 500, 100000)
	case 11:
		a.log = a.log[:x.next(len(a.log)+1)]
	}
}

// someNotes has notes, now and then with an error.
func (x *noise) someNotes() []office.Note {
	l := x.someDesks(20)
	if x.next(4) > 0 {
		return l
	}
	odd := note(pick(x, "T", "N", "n", "T", "N", "n", ""), x.next(6), pick(x, 0, 1, 2, 3, 9, 100000), pick(x, "", "a", "message 1", "message 2", "message 3"))
	return slices.Insert(l, x.next(len(l)+1), odd)
}

// isModel calls a function with random arguments, and checks that it has had each one of some errors several times.
func isModel(t *testing.T, name string, seed noise, errs ...api.Errno) {
	t.Helper()
	f := functionOf(name)
	seen := map[api.Errno]int{}
	x := seed
	for range 2500 {
		args := x.someArguments()
		want := f.model(args)
		seen[want.e]++
		isOutcome(t, fmt.Sprint(name, " of ", args), f.call(args), want)
		if t.Failed() {
			return
		}
	}
	for _, e := range append(errs, api.OK) {
		is(t, fmt.Sprint(name, " has had the error ", e, " several times: ", seen), seen[e] >= 5, true)
	}
}
