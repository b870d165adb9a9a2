package office_test

import (
	"fmt"
	"testing"

	"turnround/api"
	"turnround/office"
)

func turn(known, minute int) office.Turn { return office.Turn{Known: known, Minute: minute} }

func slot(series string, minute int) office.Slot {
	return office.Slot{Series: series, Minute: minute}
}

// P10.2: the entries that count in the chapter's examples, as of each day of knowledge.
func TestCounting(t *testing.T) {
	for known, want := range map[int][]string{0: nil, 4: nil, 5: list("e"), 6: list("e"), 7: list("e", "r"), 8: list("e", "r", "f"), 9: list("e"), 10: list("e"), 11: nil, 99999: nil} {
		isOutcome(t, fmt.Sprint("Counting as of ", known), ofNames(office.Counting(chapter(6), known)), outcome{names: want})
	}
	isOutcome(t, "Counting without events", ofNames(office.Counting(nil, 5)), outcome{})
	rejected := then(chapter(3), complain("c", "r", 8), decide("c", 8, 0))
	isList(t, "with a complaint that is rejected", ok[[]string](t)(office.Counting(rejected, 9)), list("e", "r", "f"))
	isList(t, "with a complaint that is open", ok[[]string](t)(office.Counting(chapter(5), 99999)), list("e"))
	upheld := then(chapter(3), complain("c", "r", 8), decide("c", 10, 1))
	isList(t, "before a complaint is upheld", ok[[]string](t)(office.Counting(upheld, 9)), list("e", "r", "f"))
	isList(t, "when a complaint is upheld", ok[[]string](t)(office.Counting(upheld, 10)), list("e"))
	middle := then(chapter(3), follow("g", "a", "f", 8, 1, 2, 3), follow("h", "a", "r", 8, 1, 2, 3), complain("c", "f", 8), decide("c", 8, 1))
	isList(t, "without the middle of a chain", ok[[]string](t)(office.Counting(middle, 8)), list("e", "r", "h"))
}

// P10.2: what rests on an entry, also far away, and whether it counts or not.
func TestResting(t *testing.T) {
	l := then(chapter(6), follow("g", "b", "e", 11, 1, 2, 3))[:6]
	for entry, want := range map[string][]string{"e": nil, "r": list("f"), "f": nil} {
		isOutcome(t, "Resting on "+entry, ofNames(office.Resting(l, entry)), outcome{names: want})
	}
	l = then(chapter(3), follow("g", "b", "f", 8, 1, 2, 3), enter("k", "r", 8, 1, 2, 3), follow("h", "b", "e", 8, 1, 2, 3), follow("i", "b", "g", 8, 1, 2, 3), follow("j", "b", "r", 8, 1, 2, 3))
	for _, events := range [][]api.Event{l, then(l, reverse("r", 9)), then(l, complain("c", "g", 8), decide("c", 8, 1))} {
		for entry, want := range map[string][]string{"e": list("h"), "r": list("f", "g", "i", "j"), "f": list("g", "i"), "g": list("i"), "h": nil, "i": nil, "j": nil, "k": nil} {
			isOutcome(t, "Resting on "+entry, ofNames(office.Resting(events, entry)), outcome{names: want})
		}
	}
	for _, unknown := range []string{"x", "a", "b", "c", "R", "rr"} {
		isError(t, "Resting on "+unknown, ofNames(office.Resting(then(l, complain("c", "e", 8)), unknown)), api.ErrUnknown)
	}
	isError(t, "Resting without events", ofNames(office.Resting(nil, "e")), api.ErrUnknown)
}

// P10.2: the minute is that of the last entry that counts and has the day.
func TestMinutes(t *testing.T) {
	for _, x := range []struct {
		series             string
		known, day, minute int
	}{
		{"a", 6, 16, 600}, {"a", 7, 16, 660}, {"a", 8, 16, 660}, {"a", 9, 16, 600}, {"a", 10, 16, 600}, {"a", 11, 16, 1440}, {"a", 4, 16, 1440}, {"a", 0, 16, 1440}, {"a", 99999, 16, 1440},
		{"a", 7, 9, 1440}, {"a", 7, 10, 600}, {"a", 7, 14, 600}, {"a", 7, 15, 660}, {"a", 7, 20, 660}, {"a", 7, 21, 1440}, {"a", 7, 0, 1440}, {"a", 7, 99999, 1440},
		{"b", 7, 16, 1440}, {"b", 8, 16, 700}, {"b", 8, 14, 1440}, {"b", 9, 16, 1440}, {"A", 7, 16, 1440}, {"e", 7, 16, 1440}, {"none", 7, 16, 1440},
	} {
		isOutcome(t, fmt.Sprint("Minute ", x), ofMinute(office.Minute(chapter(6), x.series, x.known, x.day)), outcome{minute: x.minute})
	}
	// The order in which entries were added decides, not that of their days; 1440 takes a slot away.
	l := numbered(enter("e", "a", 5, 10, 20, 600), enter("f", "a", 5, 12, 30, 1440), enter("g", "a", 5, 14, 16, 0), enter("h", "b", 5, 0, 99999, 1439))
	for day, want := range map[int]int{9: 1440, 10: 600, 11: 600, 12: 1440, 13: 1440, 14: 0, 16: 0, 17: 1440, 20: 1440, 25: 1440, 31: 1440} {
		isOutcome(t, fmt.Sprint("Minute on ", day), ofMinute(office.Minute(l, "a", 5, day)), outcome{minute: want})
	}
	for _, day := range []int{0, 99999} {
		is(t, "Minute on the first and the last day", ok[int](t)(office.Minute(l, "b", 99999, day)), 1439)
	}
	isOutcome(t, "Minute without events", ofMinute(office.Minute(nil, "a", 0, 0)), outcome{minute: 1440})
}

// P10.2: all series with a slot, by their names.
func TestAsOf(t *testing.T) {
	for known, want := range map[int][]office.Slot{0: nil, 4: nil, 5: list(slot("a", 600)), 7: list(slot("a", 660)), 8: list(slot("a", 660), slot("b", 700)), 9: list(slot("a", 600)), 10: list(slot("a", 600)), 11: nil, 99999: nil} {
		isOutcome(t, fmt.Sprint("AsOf ", known), ofSlots(office.AsOf(chapter(6), known, 16)), outcome{slots: want})
	}
	l := numbered(enter("e", "b", 5, 10, 20, 600), enter("f", "a1", 5, 10, 20, 1440), enter("g", "a", 5, 14, 16, 0), enter("h", "B", 5, 0, 99999, 1439), enter("i", "b", 5, 11, 11, 5), enter("j", "a_", 5, 11, 20, 7), enter("k", "aB", 5, 11, 20, 8), enter("m", "aa", 5, 11, 20, 9))
	isList(t, "by bytes", ok[[]office.Slot](t)(office.AsOf(l, 5, 14)), list(slot("B", 1439), slot("a", 0), slot("aB", 8), slot("a_", 7), slot("aa", 9), slot("b", 600)))
	isList(t, "on another day", ok[[]office.Slot](t)(office.AsOf(l, 5, 10)), list(slot("B", 1439), slot("b", 600)))
	isList(t, "by the last entry", ok[[]office.Slot](t)(office.AsOf(l, 5, 11)), list(slot("B", 1439), slot("aB", 8), slot("a_", 7), slot("aa", 9), slot("b", 5)))
	isOutcome(t, "AsOf without events", ofSlots(office.AsOf(nil, 0, 0)), outcome{})
	all := ok[[]office.Slot](t)(office.AsOf(entries(256), 5, 15))
	is(t, "256 series", len(all), 256)
}

// P10.2: a history has a day of knowledge for each change.
func TestHistory(t *testing.T) {
	for _, x := range []struct {
		series string
		day    int
		want   []office.Turn
	}{
		{"a", 16, list(turn(5, 600), turn(7, 660), turn(9, 600), turn(11, 1440))}, {"a", 12, list(turn(5, 600), turn(11, 1440))}, {"a", 9, nil}, {"a", 21, nil},
		{"b", 16, list(turn(8, 700), turn(9, 1440))}, {"b", 14, nil}, {"c", 16, nil},
	} {
		isOutcome(t, fmt.Sprint("History ", x.series, x.day), ofTurns(office.History(chapter(6), x.series, x.day)), outcome{turns: x.want})
	}
	for _, x := range []struct {
		what string
		l    []api.Event
		want []office.Turn
	}{
		{"known on the day 0", numbered(enter("e", "a", 0, 10, 20, 600)), list(turn(0, 600))},
		{"known on the last day", numbered(enter("e", "a", 99999, 10, 20, 600)), list(turn(99999, 600))},
		{"no slot", numbered(enter("e", "a", 5, 10, 20, 1440)), nil},
		{"no slot any more", numbered(enter("e", "a", 5, 10, 20, 0), enter("f", "a", 6, 10, 20, 1440)), list(turn(5, 0), turn(6, 1440))},
		{"the same minute again", numbered(enter("e", "a", 5, 10, 20, 600), enter("f", "a", 6, 10, 20, 600), rule("g", "a", 7, 10, 20, 600), reverse("g", 8)), list(turn(5, 600))},
		{"two entries on one day", numbered(enter("e", "a", 5, 10, 20, 600), enter("f", "a", 5, 10, 20, 660)), list(turn(5, 660))},
		{"there and gone on one day", numbered(rule("e", "a", 5, 10, 20, 600), reverse("e", 5)), nil},
		{"changed and back on one day", numbered(enter("d", "a", 4, 10, 20, 600), rule("e", "a", 5, 10, 20, 660), reverse("e", 5)), list(turn(4, 600))},
		{"a complaint alone", numbered(enter("d", "a", 4, 10, 20, 600), complain("c", "d", 5), decide("c", 6, 0)), list(turn(4, 600))},
		{"another series that is reversed", numbered(enter("d", "a", 4, 10, 20, 600), rule("e", "b", 5, 10, 20, 660), reverse("e", 6)), list(turn(4, 600))},
		{"other days that are reversed", numbered(enter("d", "a", 4, 10, 20, 600), rule("e", "a", 5, 17, 20, 660), reverse("e", 6)), list(turn(4, 600))},
		{"nothing", nil, nil},
	} {
		isOutcome(t, "History with "+x.what, ofTurns(office.History(x.l, "a", 16)), outcome{turns: x.want})
	}
}

// P10.2: the days of a period on which two days of knowledge differ.
func TestDifferences(t *testing.T) {
	l := chapter(6)
	for _, x := range []struct {
		series        string
		first, second int
		p             api.Period
		want          []int
	}{
		{"a", 8, 9, everyDay, list(15, 16, 17, 18, 19, 20)}, {"a", 9, 8, everyDay, list(15, 16, 17, 18, 19, 20)}, {"a", 8, 8, everyDay, nil}, {"a", 7, 8, everyDay, nil},
		{"a", 5, 9, everyDay, nil}, {"a", 10, 11, everyDay, list(10, 11, 12, 13, 14, 15, 16, 17, 18, 19, 20)}, {"a", 0, 99999, everyDay, nil},
		{"a", 10, 11, api.Period{From: 0, To: 400, Days: 127}, list(10, 11, 12, 13, 14, 15, 16, 17, 18, 19, 20)},
		{"a", 8, 9, api.Period{From: 17, To: 18, Days: 127}, list(17, 18)}, {"a", 8, 9, api.Period{From: 21, To: 30, Days: 127}, nil},
		{"a", 8, 9, api.Period{From: 0, To: 30, Days: 96}, list(15)}, {"a", 10, 11, api.Period{From: 0, To: 30, Days: 1}, list(16)}, {"a", 8, 9, api.Period{From: 16, To: 20, Days: 32}, nil},
		{"b", 8, 9, everyDay, list(15, 16, 17, 18, 19, 20)}, {"c", 8, 9, everyDay, nil},
	} {
		isOutcome(t, fmt.Sprint("Differences ", x), ofDays(office.Differences(l, x.series, x.first, x.second, x.p)), outcome{days: x.want})
	}
	// No slot is what there was before all.
	none := numbered(enter("e", "a", 5, 10, 20, 1440))
	isOutcome(t, "Differences without a slot", ofDays(office.Differences(none, "a", 4, 5, everyDay)), outcome{})
}

// P10.2: of the errors of questions the first one decides.
func TestFirstErrorOfQuestions(t *testing.T) {
	x := example()
	events := list(manyEvents, oddEvent, lateEvent)
	isFirstFault(t, "Counting", x, append(events, notKnown)...)
	isFirstFault(t, "Resting", x, append(events,
		fault{"an entry that is no name", api.ErrName, func(x *arguments) { x.entry = "1" }},
		fault{"an unknown entry", api.ErrUnknown, func(x *arguments) { x.entry = "unknown" }},
	)...)
	isFirstFault(t, "Minute", x, append(events, noSeries, notKnown, noDay)...)
	isFirstFault(t, "AsOf", x, append(events, notKnown, noDay)...)
	isFirstFault(t, "History", x, append(events, noSeries, noDay)...)
	faults := append(events, noSeries, notKnown, notOther)
	for _, p := range []struct {
		p api.Period
		e api.Errno
	}{
		{api.Period{From: -1, To: 10, Days: 1}, api.ErrRange},
		{api.Period{From: 10, To: 100000, Days: 1}, api.ErrRange},
		{api.Period{From: 11, To: 10, Days: 0}, api.ErrOrder},
		{api.Period{From: 10, To: 411, Days: 0}, api.ErrLarge},
		{api.Period{From: 10, To: 20, Days: 0}, api.ErrRange},
		{api.Period{From: 10, To: 20, Days: 128}, api.ErrRange},
	} {
		faults = append(faults, fault{fmt.Sprint("the period ", p.p), p.e, func(x *arguments) { x.p = p.p }})
	}
	isFirstFault(t, "Differences", x, faults...)
}

// P10.2: each name and each day that is none.
func TestNoQuestions(t *testing.T) {
	l := chapter(6)
	for _, s := range noNames {
		isError(t, "Resting on "+s, ofNames(office.Resting(l, s)), api.ErrName)
		isError(t, "Minute of "+s, ofMinute(office.Minute(l, s, -1, -1)), api.ErrName)
		isError(t, "History of "+s, ofTurns(office.History(l, s, -1)), api.ErrName)
		isError(t, "Differences of "+s, ofDays(office.Differences(l, s, -1, -1, api.Period{})), api.ErrName)
	}
	for _, day := range noDays {
		isError(t, "Counting", ofNames(office.Counting(l, day)), api.ErrRange)
		isError(t, "Minute, known", ofMinute(office.Minute(l, "a", day, 5)), api.ErrRange)
		isError(t, "Minute, day", ofMinute(office.Minute(l, "a", 5, day)), api.ErrRange)
		isError(t, "AsOf, known", ofSlots(office.AsOf(l, day, 5)), api.ErrRange)
		isError(t, "AsOf, day", ofSlots(office.AsOf(l, 5, day)), api.ErrRange)
		isError(t, "History", ofTurns(office.History(l, "a", day)), api.ErrRange)
		isError(t, "Differences, first", ofDays(office.Differences(l, "a", day, 5, everyDay)), api.ErrRange)
		isError(t, "Differences, second", ofDays(office.Differences(l, "a", 5, day, everyDay)), api.ErrRange)
	}
	for _, s := range names {
		is(t, "Minute of "+s, ok[int](t)(office.Minute(numbered(enter("e", s, 0, 0, 0, 7)), s, 0, 0)), 7)
	}
}

// P10.2: questions against the definitions.
func TestKnowledgeModels(t *testing.T) {
	isModel(t, "Counting", 21, api.ErrRange)
	isModel(t, "Resting", 22, api.ErrName, api.ErrUnknown)
	isModel(t, "Minute", 23, api.ErrName, api.ErrRange)
	isModel(t, "AsOf", 24, api.ErrRange)
	isModel(t, "History", 25, api.ErrName, api.ErrRange)
	isModel(t, "Differences", 26, api.ErrName, api.ErrRange, api.ErrOrder, api.ErrLarge)
}

// P10.2: the longest chain of entries that rest on each other, and its end.
func TestLongestChain(t *testing.T) {
	l := chain(256)
	isList(t, "all rest on the first one", ok[[]string](t)(office.Resting(l, "n0")), ok[[]string](t)(office.Counting(l, 255))[1:])
	isList(t, "nothing rests on the last one", ok[[]string](t)(office.Resting(l, "n255")), nil)
	is(t, "the last one of all counts", ok[int](t)(office.Minute(l, "a", 255, 5)), 255)
	is(t, "the turns", len(ok[[]office.Turn](t)(office.History(l, "a", 5))), 256)
	l = then(l, complain("c", "n100", 255), decide("c", 256, 1))
	is(t, "those before a complaint that is upheld", len(ok[[]string](t)(office.Counting(l, 256))), 100)
	is(t, "the last one of them", ok[int](t)(office.Minute(l, "a", 256, 5)), 99)
	l = then(l, reverse("n0", 257))
	isList(t, "none is left", ok[[]string](t)(office.Counting(l, 257)), nil)
	is(t, "the last turn", ok[[]office.Turn](t)(office.History(l, "a", 5))[257], turn(257, 1440))
	is(t, "many days", len(ok[[]int](t)(office.Differences(l, "a", 256, 257, api.Period{From: 99599, To: 99999, Days: 127}))), 401)
}
