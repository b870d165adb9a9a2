package use_test

import (
	"fmt"
	"slices"
	"testing"

	"turnround/api"
	"turnround/use"
)

// P9.1, P9.2, P9.3, P9.4, P9.5, P9.6: the first error of the arguments of each function.
func TestErrorsOfArguments(t *testing.T) {
	for _, f := range functions {
		for i, argument := range f.takes {
			for _, x := range faultsOf(argument) {
				f.is(t, x.what, changed(example(), x.change), x.e)
				broken := example()
				for _, later := range f.takes[i+1:] {
					faultsOf(later)[0].change(&broken)
				}
				f.is(t, x.what+", and all later arguments", changed(broken, x.change), x.e)
			}
		}
	}
}

// P9.1, P9.2, P9.3, P9.4, P9.5, P9.6: arguments that a function does not take have no effect.
func TestOtherArguments(t *testing.T) {
	for _, f := range functions {
		for _, argument := range list("rule", "slots", "records", "notes", "requests", "season", "ratio", "period", "name", "kind", "minute") {
			if !slices.Contains(f.takes, argument) {
				f.is(t, "without "+argument, changed(example(), faultsOf(argument)[0].change), api.OK)
			}
		}
	}
}

// P9.1: a rule on the edges of what is permitted has no error.
func TestCheckRule(t *testing.T) {
	for _, r := range goodRules() {
		is(t, fmt.Sprint("CheckRule of ", r), use.CheckRule(r), api.OK)
		is(t, fmt.Sprint("the model of ", r), ruleError(r), api.OK)
	}
	is(t, "CheckRule of an empty rule", use.CheckRule(use.Rule{}), api.ErrRange)
	is(t, "CheckRule without a run", use.CheckRule(use.Rule{Share: 1}), api.ErrRange)
	is(t, "an error of causes before one of the run", use.CheckRule(use.Rule{Share: 1, Causes: list("a", "a")}), api.ErrTwice)
}

// P9.1: slots on the edges of what is permitted, also equal ones, have no error.
func TestCheckSlots(t *testing.T) {
	for _, l := range goodSlots() {
		is(t, fmt.Sprint("CheckSlots of ", l), use.CheckSlots(l), api.OK)
		is(t, fmt.Sprint("the model of ", l), slotsError(l), api.OK)
	}
}

// P9.1: records on the edges of what is permitted have no error.
func TestCheckNotes(t *testing.T) {
	for _, l := range goodNotes() {
		is(t, fmt.Sprint("CheckNotes of ", l), use.CheckNotes(l), api.OK)
		is(t, fmt.Sprint("the model of ", l), notesError(l), api.OK)
	}
	for kind, n := range map[string]int{"fly": 8, "back": 6, "cancel": 6, "weather": 10} {
		good := map[string]use.Note{"fly": fly("x", 5, "A"), "back": back("x", 5, 6, 7), "cancel": cancel("x", 5, 6, "y"), "weather": weather(5, 6)}[kind]
		is(t, "the model has each field too much of "+kind, len(strange(good)), n)
	}
}

// P9.1: the first error of random arguments.
func TestChecksAreTheModel(t *testing.T) {
	isModel(t, "CheckRule", 11, api.ErrRange, api.ErrName)
	isModel(t, "CheckSlots", 12, api.ErrRange, api.ErrName, api.ErrKind)
	isModel(t, "CheckNotes", 13, api.ErrRange, api.ErrName, api.ErrKind, api.ErrForm)
	isModel(t, "SlotsOf", 14, api.ErrRange, api.ErrName, api.ErrKind)
}

// P9.1: one slot for each day of the period, in ascending order.
func TestSlotsOf(t *testing.T) {
	for _, x := range []struct {
		what   string
		p      api.Period
		minute int
		want   []use.Slot
	}{
		{"five days", on(0, 4, 127), 600, at(600, 2040, 3480, 4920, 6360)},
		{"one day", on(5, 5, 127), 0, at(7200)},
		{"the last minute", on(5, 6, 127), 1439, at(8639, 10079)},
		{"weekends", on(0, 9, 96), 1, at(1, 1441, 10081, 11521)},
		{"no day", on(0, 4, 16), 600, nil},
		{"the first moment", on(0, 0, 32), 0, at(0)},
		{"the last moment", on(99999, 99999, 127), 1439, at(143999999)},
	} {
		isList(t, "SlotsOf: "+x.what, ok[[]use.Slot](t)(use.SlotsOf("x", "A", x.p, x.minute)), x.want)
		isList(t, "the model: "+x.what, slotsOf("x", "A", x.p, x.minute), x.want)
	}
	isList(t, "departures", ok[[]use.Slot](t)(use.SlotsOf("A_9", "D", on(1, 1, 127), 2)), list(slot("A_9", 1442, "D")))
	long := ok[[]use.Slot](t)(use.SlotsOf("x", "A", on(0, 400, 127), 5))
	is(t, "slots of the longest period", len(long), 401)
	is(t, "the last one", long[400], slot("x", 576005, "A"))
	is(t, "CheckSlots", use.CheckSlots(long), api.OK)
}
