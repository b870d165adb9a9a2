package use_test

import (
	"fmt"
	"math"
	"slices"
	"testing"

	"turnround/api"
	"turnround/calendar"
	"turnround/use"
)

// arguments are arguments of all functions.
type arguments struct {
	r        use.Rule
	slots    []use.Slot
	records  []use.Slot
	l        []use.Note
	matches  []use.Match
	c        use.Cover
	x        use.Ratio
	name     string
	kind     string
	p        api.Period
	minute   int
	s        calendar.Season
	requests []api.Request
}

// outcome is what functions return.
type outcome struct {
	slots   []use.Slot
	matches []use.Match
	c       use.Cover
	numbers []int
	texts   []string
	x       use.Ratio
	is      bool
	number  int
	rows    []use.Row
	periods []api.Period
	rights  []use.Right
	e       api.Errno
}

func ofError(e api.Errno) outcome { return outcome{e: e} }

func ofSlots(l []use.Slot, e api.Errno) outcome { return outcome{slots: l, e: e} }

func ofMatches(l []use.Match, e api.Errno) outcome { return outcome{matches: l, e: e} }

func ofNumbers(l []int, e api.Errno) outcome { return outcome{numbers: l, e: e} }

func ofTexts(l []string, e api.Errno) outcome { return outcome{texts: l, e: e} }

func ofRatio(x use.Ratio, e api.Errno) outcome { return outcome{x: x, e: e} }

func ofBool(is bool, e api.Errno) outcome { return outcome{is: is, e: e} }

func ofNumber(n int, e api.Errno) outcome { return outcome{number: n, e: e} }

func ofRows(l []use.Row, e api.Errno) outcome { return outcome{rows: l, e: e} }

func ofPeriods(l []api.Period, e api.Errno) outcome { return outcome{periods: l, e: e} }

func ofRights(l []use.Right, e api.Errno) outcome { return outcome{rights: l, e: e} }

// ofCover has of a cover, which is free, whether it is one and how many indices it has, unless it stands beside an error.
func ofCover(x arguments, c use.Cover, e api.Errno) outcome {
	if e != api.OK {
		return outcome{c: c, e: e}
	}
	return outcome{is: coverError(x.r, x.slots, x.records, c) == api.OK, number: len(c.Slots) + len(c.Records)}
}

// isOutcome compares outcomes; nil and empty lists are equal.
func isOutcome(t *testing.T, what string, got, want outcome) {
	t.Helper()
	if !equalOutcomes(got, want) {
		t.Errorf("%s: got %v, want %v", what, got, want)
	}
}

func equalOutcomes(a, b outcome) bool {
	return a.e == b.e && a.x == b.x && a.is == b.is && a.number == b.number &&
		slices.Equal(a.slots, b.slots) && slices.Equal(a.matches, b.matches) && slices.Equal(a.numbers, b.numbers) && slices.Equal(a.texts, b.texts) &&
		slices.Equal(a.c.Slots, b.c.Slots) && slices.Equal(a.c.Records, b.c.Records) &&
		slices.Equal(a.rows, b.rows) && slices.Equal(a.periods, b.periods) && slices.EqualFunc(a.rights, b.rights, equalRights)
}

func equalRights(a, b use.Right) bool {
	return a.Name == b.Name && slices.Equal(a.Periods, b.Periods)
}

// isError checks that a function has an error, and zero values beside it.
func isError(t *testing.T, what string, got outcome, want api.Errno) {
	t.Helper()
	isOutcome(t, what, got, outcome{e: want})
}

// function is a function of the chapter: which arguments it takes, in their order, how it is called, and what it has to return for arguments without an error.
type function struct {
	name  string
	takes []string
	call  func(x arguments) outcome
	model func(x arguments) outcome
}

var functions = []function{
	{"CheckRule", list("rule"),
		func(x arguments) outcome { return ofError(use.CheckRule(x.r)) },
		func(x arguments) outcome { return outcome{} }},
	{"CheckSlots", list("slots"),
		func(x arguments) outcome { return ofError(use.CheckSlots(x.slots)) },
		func(x arguments) outcome { return outcome{} }},
	{"CheckNotes", list("notes"),
		func(x arguments) outcome { return ofError(use.CheckNotes(x.l)) },
		func(x arguments) outcome { return outcome{} }},
	{"SlotsOf", list("name", "kind", "period", "minute"),
		func(x arguments) outcome { return ofSlots(use.SlotsOf(x.name, x.kind, x.p, x.minute)) },
		func(x arguments) outcome { return outcome{slots: slotsOf(x.name, x.kind, x.p, x.minute)} }},
	{"Matches", list("rule", "slots", "records"),
		func(x arguments) outcome { return ofMatches(use.Matches(x.r, x.slots, x.records)) },
		func(x arguments) outcome { return outcome{matches: matches(x.r, x.slots, x.records)} }},
	{"CheckMatches", list("rule", "slots", "records"),
		func(x arguments) outcome { return ofError(use.CheckMatches(x.r, x.slots, x.records, x.matches)) },
		func(x arguments) outcome { return ofError(matchesError(x.r, x.slots, x.records, x.matches)) }},
	{"Covered", list("rule", "slots", "records"),
		func(x arguments) outcome {
			c, e := use.Covered(x.r, x.slots, x.records)
			return ofCover(x, c, e)
		},
		func(x arguments) outcome {
			return outcome{is: true, number: len(matches(x.r, x.slots, x.records))}
		}},
	{"CheckCover", list("rule", "slots", "records"),
		func(x arguments) outcome { return ofError(use.CheckCover(x.r, x.slots, x.records, x.c)) },
		func(x arguments) outcome { return ofError(coverError(x.r, x.slots, x.records, x.c)) }},
	{"Missed", list("rule", "slots", "records"),
		func(x arguments) outcome { return ofNumbers(use.Missed(x.r, x.slots, x.records)) },
		func(x arguments) outcome { return outcome{numbers: missed(x.r, x.slots, x.records)} }},
	{"Extra", list("rule", "slots", "records"),
		func(x arguments) outcome { return ofNumbers(use.Extra(x.r, x.slots, x.records)) },
		func(x arguments) outcome { return outcome{numbers: extra(x.r, x.slots, x.records)} }},
	{"Flights", list("notes"),
		func(x arguments) outcome { return ofSlots(use.Flights(x.l)) },
		func(x arguments) outcome { return outcome{slots: flights(x.l)} }},
	{"Status", list("rule", "slots", "notes"),
		func(x arguments) outcome { return ofTexts(use.Status(x.r, x.slots, x.l)) },
		func(x arguments) outcome { return outcome{texts: statuses(x.r, x.slots, x.l)} }},
	{"RatioOf", list("rule", "slots", "notes"),
		func(x arguments) outcome { return ofRatio(use.RatioOf(x.r, x.slots, x.l)) },
		func(x arguments) outcome { return outcome{x: ratioOf(x.r, x.slots, x.l, every)} }},
	{"Kept", list("rule", "ratio"),
		func(x arguments) outcome { return ofBool(use.Kept(x.r, x.x)) },
		func(x arguments) outcome { return outcome{is: keeps(x.r, x.x)} }},
	{"Missing", list("rule", "ratio"),
		func(x arguments) outcome { return ofNumber(use.Missing(x.r, x.x)) },
		func(x arguments) outcome { return outcome{number: missing(x.r, x.x)} }},
	{"Weekdays", list("rule", "slots", "notes"),
		func(x arguments) outcome { return ofNumber(use.Weekdays(x.r, x.slots, x.l)) },
		func(x arguments) outcome { return outcome{number: weekdays(x.r, x.slots, x.l)} }},
	{"Table", list("rule", "slots", "notes"),
		func(x arguments) outcome { return ofRows(use.Table(x.r, x.slots, x.l)) },
		func(x arguments) outcome { return outcome{rows: table(x.r, x.slots, x.l)} }},
	{"Misused", list("rule", "slots", "records"),
		func(x arguments) outcome { return ofBool(use.Misused(x.r, x.slots, x.records)) },
		func(x arguments) outcome { return outcome{is: isMisused(x.r, x.slots, x.records)} }},
	{"Historic", list("period", "season"),
		func(x arguments) outcome { return ofPeriods(use.Historic(x.p, x.s)) },
		func(x arguments) outcome { return ofPeriods(historic(x.p, x.s)) }},
	{"Rights", list("rule", "requests", "notes", "season"),
		func(x arguments) outcome { return ofRights(use.Rights(x.r, x.requests, x.l, x.s)) },
		func(x arguments) outcome { return ofRights(rights(x.r, x.requests, x.l, x.s)) }},
}

// functionOf returns the function with a name.
func functionOf(name string) function {
	return functions[slices.IndexFunc(functions, func(f function) bool { return f.name == name })]
}

// errorOf returns the error of one of the arguments.
func errorOf(argument string, x arguments) api.Errno {
	unless := func(holds bool, e api.Errno) api.Errno {
		if holds {
			return api.OK
		}
		return e
	}
	switch argument {
	case "rule":
		return ruleError(x.r)
	case "slots":
		return slotsError(x.slots)
	case "records":
		return slotsError(x.records)
	case "notes":
		return notesError(x.l)
	case "requests":
		return requestsError(x.requests)
	case "season":
		return seasonError(x.s)
	case "period":
		return periodError(x.p)
	case "ratio":
		return ratioError(x.x)
	case "name":
		return unless(isName(x.name), api.ErrName)
	case "kind":
		return unless(isKind(x.kind), api.ErrKind)
	}
	return unless(isMinute(x.minute), api.ErrRange)
}

// want returns what a function has to return for all arguments.
func (f function) want(x arguments) outcome {
	for _, argument := range f.takes {
		if e := errorOf(argument, x); e != api.OK {
			return ofError(e)
		}
	}
	return f.model(x)
}

// is checks that a function returns what it has to return, which is to have an error or OK.
func (f function) is(t *testing.T, what string, x arguments, e api.Errno) {
	t.Helper()
	what = f.name + ": " + what
	got, want := f.call(x), f.want(x)
	is(t, what+" by the model", want.e, e)
	isOutcome(t, what, got, want)
	if e != api.OK {
		isError(t, what, got, e)
	}
}

// fault is a change of arguments that gives a function an error, also with the faults of its function that stand behind it.
type fault struct {
	what   string
	e      api.Errno
	change func(x *arguments)
}

// faultsOf has faults of one of the arguments, of each kind.
func faultsOf(argument string) []fault {
	switch argument {
	case "rule":
		return ruleFaults()
	case "slots":
		return slotFaults(func(x *arguments, l []use.Slot) { x.slots = l })
	case "records":
		return slotFaults(func(x *arguments, l []use.Slot) { x.records = l })
	case "notes":
		return noteFaults()
	case "requests":
		return requestFaults()
	case "season":
		return seasonFaults()
	case "ratio":
		return ratioFaults()
	}
	var all []fault
	switch argument {
	case "period":
		for _, x := range badPeriods {
			all = append(all, fault{x.what, x.e, func(a *arguments) { a.p = x.p }})
		}
	case "name":
		for _, s := range noNames {
			all = append(all, fault{"name " + s, api.ErrName, func(a *arguments) { a.name = s }})
		}
	case "kind":
		for _, s := range noKinds {
			all = append(all, fault{"kind " + s, api.ErrKind, func(a *arguments) { a.kind = s }})
		}
	case "minute":
		for _, n := range noMinutes {
			all = append(all, fault{fmt.Sprint("minute ", n), api.ErrRange, func(a *arguments) { a.minute = n }})
		}
	}
	return all
}

// ruleFaults has rules with each error, and with later errors beside it.
func ruleFaults() []fault {
	var all []fault
	add := func(what string, e api.Errno, changes ...func(*use.Rule)) {
		all = append(all, fault{"rule: " + what, e, func(x *arguments) { x.r = rule(changes...) }})
	}
	many := causes(make([]string, 17)...)
	noMisuse := misuse(-1, 0)
	for _, n := range []int{math.MinInt, -1, 721, math.MaxInt} {
		add(fmt.Sprint("before ", n), api.ErrRange, within(n, 0), many)
		add(fmt.Sprint("after ", n), api.ErrRange, within(0, n), many)
		add(fmt.Sprint("only before ", n), api.ErrRange, within(n, 0))
		add(fmt.Sprint("only after ", n), api.ErrRange, within(0, n))
		add(fmt.Sprint("off ", n), api.ErrRange, misuse(n, 1))
	}
	for _, n := range []int{math.MinInt, -1, 366, math.MaxInt} {
		add(fmt.Sprint("notice ", n), api.ErrRange, notice(n))
		add(fmt.Sprint("notice and more ", n), api.ErrRange, notice(n), many)
	}
	for _, n := range []int{math.MinInt, -1, 0, 101, math.MaxInt} {
		add(fmt.Sprint("share ", n), api.ErrRange, share(n))
		add(fmt.Sprint("share and more ", n), api.ErrRange, share(n), many, noMisuse)
	}
	add("17 empty causes", api.ErrMany, many, noMisuse)
	add("17 causes", api.ErrMany, causes(manyNames(17)...))
	add("17 equal causes", api.ErrMany, causes(slices.Repeat(list("a"), 17)...))
	for _, s := range noNames {
		add("cause "+s, api.ErrName, causes("a", s, "a"), noMisuse)
		add("only the cause "+s, api.ErrName, causes(s))
	}
	add("a cause twice", api.ErrTwice, causes("a", "b", "a", ""), noMisuse)
	add("the last cause twice", api.ErrTwice, causes(append(manyNames(15), "n0")...))
	for _, n := range []int{math.MinInt, -1, 0, 513, math.MaxInt} {
		add(fmt.Sprint("run ", n), api.ErrRange, misuse(0, n))
	}
	return all
}

// slotFaults has slots with each error, and with later errors beside it.
func slotFaults(set func(*arguments, []use.Slot)) []fault {
	var all []fault
	add := func(what string, e api.Errno, l ...use.Slot) {
		all = append(all, fault{"slots: " + what, e, func(x *arguments) { set(x, l) }})
	}
	add("513 slots", api.ErrMany, slices.Repeat(at(5), 513)...)
	add("513 empty slots", api.ErrMany, make([]use.Slot, 513)...)
	add("an empty slot", api.ErrName, use.Slot{})
	add("the last of 512 slots", api.ErrKind, append(slices.Repeat(at(5), 511), slot("x", 5, ""))...)
	good, empty := slot("x", 5, "A"), use.Slot{}
	for _, s := range noNames {
		add("name "+s, api.ErrName, slot(s, -1, ""))
		add("only the name "+s, api.ErrName, good, slot(s, 5, "A"), slot("x", -1, "A"))
	}
	for _, n := range noMoments {
		add(fmt.Sprint("moment ", n), api.ErrRange, slot("x", n, ""))
		add(fmt.Sprint("only the moment ", n), api.ErrRange, good, slot("x", n, "D"), empty)
	}
	for _, s := range noKinds {
		add("kind "+s, api.ErrKind, slot("x", 5, s))
		add("only the kind "+s, api.ErrKind, good, slot("x", 5, s), empty)
	}
	return all
}

// noteFaults has records with each error, and with later errors beside it.
func noteFaults() []fault {
	var all []fault
	add := func(what string, e api.Errno, l ...use.Note) {
		all = append(all, fault{"records: " + what, e, func(x *arguments) { x.l = l }})
	}
	good, empty := fly("x", 5, "A"), use.Note{}
	// set adds a record with an error, in front of errors and behind none.
	set := func(what string, e api.Errno, n use.Note) {
		add(what, e, n)
		add("behind another one: "+what, e, good, n, empty)
	}
	add("513 records", api.ErrMany, slices.Repeat(list(good), 513)...)
	add("513 empty records", api.ErrMany, make([]use.Note, 513)...)
	add("the last of 512 records", api.ErrForm, append(slices.Repeat(list(good), 511), changed(good, func(n *use.Note) { n.Told = 1 }))...)
	for _, s := range []string{"", "Fly", "fly ", "flies", "backs", "A", "\x00"} {
		set("kind "+s, api.ErrKind, use.Note{Kind: s})
		set("kind and more "+s, api.ErrKind, use.Note{Kind: s, Name: "-", Moment: -1})
	}
	for _, s := range noNames {
		set("fly of "+s, api.ErrName, fly(s, -1, ""))
		set("back of "+s, api.ErrName, back(s, -1, -1, -1))
		set("cancel of "+s, api.ErrName, cancel(s, -1, -1, ""))
		set("cancel for "+s, api.ErrName, cancel("x", 5, 6, s))
		set("only fly of "+s, api.ErrName, fly(s, 5, "A"))
		set("only back of "+s, api.ErrName, back(s, 5, 6, 0))
		set("only cancel of "+s, api.ErrName, cancel(s, 5, 6, "y"))
	}
	for _, n := range noMoments {
		set(fmt.Sprint("fly at ", n), api.ErrRange, fly("x", n, ""))
		set(fmt.Sprint("only fly at ", n), api.ErrRange, fly("x", n, "D"))
	}
	for _, s := range noKinds {
		set("move "+s, api.ErrKind, fly("x", 5, s))
	}
	for _, n := range noDays {
		set(fmt.Sprint("back from ", n), api.ErrRange, back("x", n, 6, 0))
		set(fmt.Sprint("back to ", n), api.ErrRange, back("x", 5, n, 0))
		set(fmt.Sprint("cancel from ", n), api.ErrRange, cancel("x", n, 6, ""))
		set(fmt.Sprint("cancel to ", n), api.ErrRange, cancel("x", 5, n, ""))
		set(fmt.Sprint("weather from ", n), api.ErrRange, weather(n, 6))
		set(fmt.Sprint("weather to ", n), api.ErrRange, weather(5, n))
		set(fmt.Sprint("told on ", n), api.ErrRange, back("x", 5, 6, n))
	}
	set("back that ends before it begins", api.ErrOrder, back("x", 6, 5, -1))
	set("cancel that ends before it begins", api.ErrOrder, cancel("x", 99999, 0, ""))
	set("weather that ends before it begins", api.ErrOrder, weather(1, 0))
	for _, n := range list(fly("x", 5, "A"), back("x", 5, 6, 7), cancel("x", 5, 6, "y"), weather(5, 6)) {
		for _, x := range strange(n) {
			set(fmt.Sprint("a field too much in ", x), api.ErrForm, x)
		}
	}
	set("a wrong field, and one too much", api.ErrRange, use.Note{Kind: "back", Name: "x", Moment: 5, Told: -1})
	set("a wrong name, and one too much", api.ErrName, use.Note{Kind: "cancel", Name: "x", Told: 1})
	set("a wrong move, and one too much", api.ErrKind, use.Note{Kind: "fly", Name: "x", From: -1})
	set("wrong days, and a name too much", api.ErrOrder, use.Note{Kind: "weather", Name: "x", From: 1})
	return all
}

// strange returns the records that a record without an error becomes by a field that its kind does not have.
func strange(n use.Note) []use.Note {
	var all []use.Note
	for _, change := range []func(*use.Note){
		func(n *use.Note) { n.Name = "x" }, func(n *use.Note) { n.Name = "-" }, func(n *use.Note) { n.Moment = 1 }, func(n *use.Note) { n.Moment = -1 },
		func(n *use.Note) { n.Move = "A" }, func(n *use.Note) { n.Move = "-" }, func(n *use.Note) { n.From = 1 }, func(n *use.Note) { n.From = -1 },
		func(n *use.Note) { n.To = 1 }, func(n *use.Note) { n.To = -1 }, func(n *use.Note) { n.Cause = "strike" }, func(n *use.Note) { n.Cause = " " },
		func(n *use.Note) { n.Told = 1 }, func(n *use.Note) { n.Told = math.MaxInt },
	} {
		if x := changed(n, change); noteError(x) == api.ErrForm {
			all = append(all, x)
		}
	}
	return all
}

// requestFaults has requests with each error, and with later errors beside it.
func requestFaults() []fault {
	var all []fault
	add := func(what string, e api.Errno, l ...api.Request) {
		all = append(all, fault{"requests: " + what, e, func(x *arguments) { x.requests = l }})
	}
	week, none := on(9594, 9600, 127), on(5, 4, 0)
	good, empty := request("x", "A", week, 600), api.Request{}
	add("65 empty requests", api.ErrMany, make([]api.Request, 65)...)
	add("65 equal requests", api.ErrMany, slices.Repeat(list(good), 65)...)
	var many []api.Request
	for _, name := range manyNames(65) {
		many = append(many, request(name, "A", week, 600))
	}
	add("65 requests", api.ErrMany, many...)
	add("the last of 64 requests", api.ErrTwice, append(many[:63], many[0])...)
	for _, s := range noNames {
		add("name "+s, api.ErrName, request(s, "", none, -1))
		add("only the name "+s, api.ErrName, good, request(s, "A", week, 600), empty)
		add("the name twice "+s, api.ErrName, request(s, "A", week, 600), request(s, "A", week, 600))
	}
	add("twice", api.ErrTwice, good, request("y", "D", week, 5), request("x", "", none, -1), empty)
	add("only twice", api.ErrTwice, good, request("x", "D", week, 5))
	for _, s := range noKinds {
		add("kind "+s, api.ErrKind, request("x", s, none, -1))
		add("only the kind "+s, api.ErrKind, good, request("y", s, week, 600), empty)
	}
	for _, x := range badPeriods {
		add(x.what, x.e, request("x", "A", x.p, -1))
		add("only "+x.what, x.e, good, request("y", "A", x.p, 600), empty)
	}
	for _, n := range noMinutes {
		add(fmt.Sprint("minute ", n), api.ErrRange, good, request("y", "A", week, n), empty)
	}
	return all
}

func seasonFaults() []fault {
	var all []fault
	add := func(s calendar.Season, e api.Errno) {
		all = append(all, fault{fmt.Sprint("season ", s), e, func(x *arguments) { x.s = s }})
	}
	for _, year := range []int{math.MinInt, -1, 0, 1999, 2273, math.MaxInt} {
		add(calendar.Season{Year: year, Kind: "S"}, api.ErrRange)
		add(calendar.Season{Year: year, Kind: "X"}, api.ErrRange)
	}
	for _, kind := range []string{"", "s", "X", "SW", "A"} {
		add(calendar.Season{Year: 2025, Kind: kind}, api.ErrKind)
	}
	return all
}

func ratioFaults() []fault {
	var all []fault
	add := func(flown, due int, e api.Errno) {
		x := use.Ratio{Flown: flown, Due: due}
		all = append(all, fault{fmt.Sprint("ratio ", x), e, func(a *arguments) { a.x = x }})
	}
	for _, n := range []int{math.MinInt, -1, 513, math.MaxInt} {
		add(n, 512, api.ErrRange)
		add(n, n, api.ErrRange)
		add(0, n, api.ErrRange)
		add(512, n, api.ErrRange)
	}
	add(1, 0, api.ErrOrder)
	add(512, 0, api.ErrOrder)
	add(512, 511, api.ErrOrder)
	add(6, 5, api.ErrOrder)
	return all
}

// isFirstFault checks that each fault of the arguments of a function decides before all that stand behind it, and so does each further one: they stand in the order in which the chapter names their errors.
func isFirstFault(t *testing.T, name string, base arguments, faults ...fault) {
	t.Helper()
	f := functionOf(name)
	f.is(t, "no fault", base, api.OK)
	groups := [][]fault{}
	for _, argument := range f.takes {
		groups = append(groups, faultsOf(argument))
	}
	for _, x := range faults {
		groups = append(groups, list(x))
	}
	for i, group := range groups {
		for _, first := range group {
			f.is(t, first.what, changed(base, first.change), first.e)
			for _, others := range groups[i+1:] {
				for _, other := range list(others[0], others[len(others)-1]) {
					f.is(t, first.what+", and "+other.what, changed(base, other.change, first.change), first.e)
				}
			}
		}
	}
}

// example has arguments with which each function has no error.
func example() arguments {
	week := on(9594, 9600, 127)
	return arguments{
		r: rule(), slots: at(100, 120), records: at(95, 140, 300), l: fiveNotes(), matches: list(pair(0, 0), pair(1, 1)), c: use.Cover{Slots: list(0, 1)},
		x: use.Ratio{Flown: 3, Due: 5}, name: "x", kind: "A", p: week, minute: 600, s: summer, requests: list(request("x", "A", week, 600), request("y", "D", on(9594, 9594, 127), 60)),
	}
}

// isModel calls a function with random arguments, and checks that it has had each one of some errors several times.
func isModel(t *testing.T, name string, seed noise, errs ...api.Errno) {
	t.Helper()
	f := functionOf(name)
	seen := map[api.Errno]int{}
	x := seed
	for range 3000 {
		args := x.someArguments()
		if x.next(5) == 0 {
			x.spoil(&args, f.takes...)
		}
		want := f.want(args)
		seen[want.e]++
		isOutcome(t, fmt.Sprintf("%s of %+v", name, args), f.call(args), want)
		if t.Failed() {
			return
		}
	}
	for _, e := range append(errs, api.OK) {
		is(t, fmt.Sprint(name, " has had the error ", e, " several times: ", seen), seen[e] >= 5, true)
	}
}
