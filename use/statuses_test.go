package use_test

import (
	"fmt"
	"testing"

	"turnround/api"
	"turnround/use"
)

// P9.4, P9.5: the chapter's second example.
func TestExampleRecords(t *testing.T) {
	slots, l := five(t), fiveNotes()
	isList(t, "slots", slots, list(slot("x", 600, "D"), slot("x", 2040, "D"), slot("x", 3480, "D"), slot("x", 4920, "D"), slot("x", 6360, "D")))
	isList(t, "statuses", ok[[]string](t)(use.Status(rule(), slots, l)), list("flown", "flown", "missed", "excused", "missed"))
	x := ok[use.Ratio](t)(use.RatioOf(rule(), slots, l))
	is(t, "ratio", x, use.Ratio{Flown: 3, Due: 5})
	is(t, "kept", ok[bool](t)(use.Kept(rule(), x)), false)
	is(t, "missing", ok[int](t)(use.Missing(rule(), x)), 1)
	short := rule(notice(2))
	isList(t, "statuses with the notice 2", ok[[]string](t)(use.Status(short, slots, l)), list("flown", "flown", "returned", "excused", "missed"))
	is(t, "ratio with the notice 2", ok[use.Ratio](t)(use.RatioOf(short, slots, l)), use.Ratio{Flown: 3, Due: 4})
	is(t, "ratio with weather", ok[use.Ratio](t)(use.RatioOf(short, slots, append(l, weather(4, 4)))), use.Ratio{Flown: 4, Due: 4})
}

// P9.4: the actual movements of records, by moments, then by names, then by kinds.
func TestFlights(t *testing.T) {
	for _, x := range []struct {
		what string
		l    []use.Note
		want []use.Slot
	}{
		{"none", nil, nil},
		{"other records", list(back("x", 5, 6, 0), cancel("x", 5, 6, "y"), weather(5, 6)), nil},
		{"one among others", list(weather(0, 0), fly("x", 7, "D"), back("x", 0, 0, 0)), list(slot("x", 7, "D"))},
		{"by moments", list(fly("a", 7, "A"), fly("b", 5, "D"), fly("c", 6, "A")), list(slot("b", 5, "D"), slot("c", 6, "A"), slot("a", 7, "A"))},
		{"by names", list(fly("b", 5, "A"), fly("a", 5, "D"), fly("B", 5, "A"), fly("a1", 5, "A"), fly("A", 5, "A")), list(slot("A", 5, "A"), slot("B", 5, "A"), slot("a", 5, "D"), slot("a1", 5, "A"), slot("b", 5, "A"))},
		{"by kinds", list(fly("a", 5, "D"), fly("a", 5, "A")), list(slot("a", 5, "A"), slot("a", 5, "D"))},
		{"equal ones", list(fly("a", 5, "D"), fly("a", 5, "D"), fly("a", 5, "A")), list(slot("a", 5, "A"), slot("a", 5, "D"), slot("a", 5, "D"))},
	} {
		isList(t, "Flights: "+x.what, ok[[]use.Slot](t)(use.Flights(x.l)), x.want)
		isList(t, "the model: "+x.what, flights(x.l), x.want)
	}
	isFirstFault(t, "Flights", example())
	isModel(t, "Flights", 41, api.ErrRange, api.ErrName, api.ErrKind, api.ErrForm)
}

// P9.4: the status of one slot, on the day 10, by records.
func TestStatusOfOne(t *testing.T) {
	const noon = 1440*10 + 720
	flight := fly("x", noon, "A")
	for _, x := range []struct {
		what string
		want string
		r    use.Rule
		l    []use.Note
	}{
		{"no records", "missed", rule(), nil},
		{"flown", "flown", rule(), list(flight)},
		{"flown early", "flown", rule(), list(fly("x", noon-15, "A"))},
		{"flown late", "flown", rule(), list(fly("x", noon+30, "A"))},
		{"flown too early", "missed", rule(), list(fly("x", noon-16, "A"))},
		{"flown too late", "missed", rule(), list(fly("x", noon+31, "A"))},
		{"flown by another series", "missed", rule(), list(fly("y", noon, "A"))},
		{"another kind", "missed", rule(), list(fly("x", noon, "D"))},
		{"handed back with the notice", "returned", rule(), list(back("x", 10, 10, 3))},
		{"handed back a day too late", "missed", rule(), list(back("x", 10, 10, 4))},
		{"handed back on its day without a notice", "returned", rule(notice(0)), list(back("x", 10, 10, 10))},
		{"handed back after its day", "missed", rule(notice(0)), list(back("x", 10, 10, 11))},
		{"handed back with other days", "returned", rule(), list(back("x", 8, 12, 0))},
		{"handed back as the first day", "returned", rule(), list(back("x", 10, 12, 0))},
		{"handed back as the last day", "returned", rule(), list(back("x", 8, 10, 0))},
		{"the days before are handed back", "missed", rule(), list(back("x", 0, 9, 0))},
		{"the days after are handed back", "missed", rule(), list(back("x", 11, 99999, 0))},
		{"another series is handed back", "missed", rule(), list(back("y", 10, 10, 0))},
		{"handed back and flown", "returned", rule(), list(flight, back("x", 10, 10, 3))},
		{"handed back too late, and flown", "flown", rule(), list(back("x", 10, 10, 4), flight)},
		{"handed back and excused", "returned", rule(), list(weather(10, 10), back("x", 10, 10, 3))},
		{"handed back twice, once in time", "returned", rule(), list(back("x", 10, 10, 9), back("x", 10, 10, 3))},
		{"weather", "excused", rule(), list(weather(10, 10))},
		{"weather of more days", "excused", rule(), list(weather(0, 99999))},
		{"weather before", "missed", rule(), list(weather(0, 9))},
		{"weather after", "missed", rule(), list(weather(11, 99999))},
		{"weather and flown", "flown", rule(), list(weather(10, 10), flight)},
		{"a cause", "excused", rule(), list(cancel("x", 10, 10, "strike"))},
		{"a cause on more days", "excused", rule(), list(cancel("x", 10, 11, "strike"))},
		{"a cause up to its day", "excused", rule(), list(cancel("x", 9, 10, "strike"))},
		{"a cause before", "missed", rule(), list(cancel("x", 0, 9, "strike"))},
		{"a cause after", "missed", rule(), list(cancel("x", 11, 12, "strike"))},
		{"a cause that does not excuse", "missed", rule(), list(cancel("x", 10, 10, "storm"))},
		{"no cause excuses", "missed", rule(causes()), list(cancel("x", 10, 10, "strike"))},
		{"the second cause", "excused", rule(causes("storm", "strike")), list(cancel("x", 10, 10, "strike"))},
		{"a cause of another series", "missed", rule(), list(cancel("y", 10, 10, "strike"))},
		{"a cause and flown", "flown", rule(), list(cancel("x", 10, 10, "strike"), flight)},
		{"a series with the name of a cause", "missed", rule(causes("x")), list(back("x", 10, 10, 10))},
	} {
		one := list(slot("x", noon, "A"))
		isList(t, "Status: "+x.what, ok[[]string](t)(use.Status(x.r, one, x.l)), list(x.want))
		isList(t, "the model: "+x.what, statuses(x.r, one, x.l), list(x.want))
		want := map[string]use.Ratio{"returned": {}, "flown": {Flown: 1, Due: 1}, "excused": {Flown: 1, Due: 1}, "missed": {Due: 1}}[x.want]
		is(t, "RatioOf: "+x.what, ok[use.Ratio](t)(use.RatioOf(x.r, one, x.l)), want)
	}
}

// P9.4: the records of the day 0, with all fields 0, are about it alone, each one in its way.
func TestStatusOnTheFirstDay(t *testing.T) {
	slots := at(0, 1439, 1440)
	free := rule(notice(0), causes("x"))
	for _, x := range []struct {
		n    use.Note
		want []string
	}{
		{fly("x", 0, "A"), list("flown", "missed", "missed")},
		{fly("x", 1450, "A"), list("missed", "flown", "missed")},
		{fly("x", 0, "D"), list("missed", "missed", "missed")},
		{back("x", 0, 0, 0), list("returned", "returned", "missed")},
		{cancel("x", 0, 0, "x"), list("excused", "excused", "missed")},
		{weather(0, 0), list("excused", "excused", "missed")},
	} {
		isList(t, fmt.Sprint("Status by ", x.n), ok[[]string](t)(use.Status(free, slots, list(x.n))), x.want)
	}
}

// P9.4: a slot that was returned leaves its actual movement to another one.
func TestReturnedSlotsTakeNothing(t *testing.T) {
	// Both are within the tolerances of the movement, on two days; the earlier one was handed back.
	slots := at(1435, 1445)
	l := list(fly("x", 1440, "A"), back("x", 0, 0, 0))
	isList(t, "with the earlier one", ok[[]string](t)(use.Status(rule(), slots, l)), list("flown", "missed"))
	isList(t, "without the earlier one", ok[[]string](t)(use.Status(rule(notice(0)), slots, l)), list("returned", "flown"))
	isList(t, "in another order", ok[[]string](t)(use.Status(rule(notice(0)), at(1445, 1435), l)), list("flown", "returned"))
	is(t, "the ratio without the earlier one", ok[use.Ratio](t)(use.RatioOf(rule(notice(0)), slots, l)), use.Ratio{Flown: 1, Due: 1})
	isList(t, "no slots", ok[[]string](t)(use.Status(rule(), nil, l)), nil)
	is(t, "the ratio of no slots", ok[use.Ratio](t)(use.RatioOf(rule(), nil, l)), use.Ratio{})
}

// P9.4: statuses and ratios of random slots by random records.
func TestStatuses(t *testing.T) {
	for i, name := range list("Status", "RatioOf") {
		isFirstFault(t, name, example())
		isModel(t, name, noise(42+i), api.ErrRange, api.ErrName, api.ErrKind, api.ErrForm)
	}
	seen := map[string]int{}
	x := noise(44)
	for range 1000 {
		a := x.someArguments()
		for _, word := range functionOf("Status").want(a).texts {
			seen[word]++
		}
	}
	for _, word := range list("returned", "flown", "excused", "missed") {
		is(t, fmt.Sprint("there are some of each: ", seen), seen[word] > 100, true)
	}
}
