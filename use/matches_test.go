package use_test

import (
	"fmt"
	"testing"

	"turnround/api"
	"turnround/use"
)

// P9.2, P9.3: the chapter's first and third example.
func TestExampleMatches(t *testing.T) {
	slots, records := at(100, 120), at(95, 140, 300)
	isList(t, "1: matches", ok[[]use.Match](t)(use.Matches(rule(), slots, records)), list(pair(0, 0), pair(1, 1)))
	isList(t, "1: extra", ok[[]int](t)(use.Extra(rule(), slots, records)), list(2))
	isList(t, "1: missed", ok[[]int](t)(use.Missed(rule(), slots, records)), nil)
	isList(t, "1: crossed", ok[[]use.Match](t)(use.Matches(rule(), slots, at(118, 95))), list(pair(0, 1), pair(1, 0)))
	is(t, "1: a cover", use.CheckCover(rule(), slots, records, use.Cover{Slots: list(0, 1)}), api.OK)
	is(t, "3: three in a row", ok[bool](t)(use.Misused(rule(), slots, records)), false)
	is(t, "3: one", ok[bool](t)(use.Misused(rule(misuse(10, 1)), slots, records)), true)
}

// scene is slots and actual movements, and what is found in them.
type scene struct {
	what    string
	r       use.Rule
	slots   []use.Slot
	records []use.Slot
	want    []use.Match
	missed  []int
	extra   []int
}

var scenes = []scene{
	{"nothing", rule(), nil, nil, nil, nil, nil},
	{"no movements", rule(), at(100, 200), nil, nil, list(0, 1), nil},
	{"no slots", rule(), nil, at(100, 200), nil, nil, list(0, 1)},
	{"on the edges", rule(), at(100), at(85, 130), list(pair(0, 0)), nil, list(1)},
	{"at the late edge", rule(), at(100), at(130), list(pair(0, 0)), nil, nil},
	{"beyond the edges", rule(), at(100), at(84, 131), nil, list(0), list(0, 1)},
	{"without tolerances", rule(within(0, 0)), at(100, 101), at(101, 99, 100), list(pair(0, 2), pair(1, 0)), nil, list(1)},
	{"with the greatest tolerances", rule(within(720, 720)), at(1000, 2441), at(280, 3161), list(pair(0, 0), pair(1, 1)), nil, nil},
	{"beyond the greatest tolerances", rule(within(720, 720)), at(1000), at(279, 1721), nil, list(0), list(0, 1)},
	{"before midnight", rule(), at(1440), at(1425), list(pair(0, 0)), nil, nil},
	{"the first and the last moment", rule(), at(0, 143999999), at(30, 143999984), list(pair(0, 0), pair(1, 1)), nil, nil},
	{"another kind and another name", rule(), at(100), list(slot("x", 100, "D"), slot("y", 100, "A"), slot("X", 100, "A")), nil, list(0), list(0, 1, 2)},
	{"the least moment, not the nearest one", rule(), at(100), at(100, 90), list(pair(0, 1)), nil, list(0)},
	{"the least index of equal ones", rule(), at(100), at(110, 90, 90), list(pair(0, 1)), nil, list(0, 2)},
	{"the earlier slot first", rule(), at(120, 100), at(118), list(pair(1, 0)), list(0), nil},
	{"the slot with the least index first", rule(), at(100, 100, 100), at(100, 100), list(pair(0, 0), pair(1, 1)), list(2), nil},
	{"the earlier slot takes the only movement of the later one", rule(), at(100, 130), at(120), list(pair(0, 0)), list(1), nil},
	{"the earlier slot leaves the later movement", rule(), at(130, 100), at(125, 110), list(pair(0, 0), pair(1, 1)), nil, nil},
	{"two series", rule(), list(slot("y", 100, "D"), slot("x", 100, "A"), slot("y", 90, "D")), list(slot("x", 101, "A"), slot("y", 102, "D")), list(pair(1, 0), pair(2, 1)), list(0), nil},
	{"a chain", rule(), at(100, 120, 140, 160), at(130, 130, 150), list(pair(0, 0), pair(1, 1), pair(2, 2)), list(3), nil},
	{"a slot in the middle", rule(), at(200, 100, 150), at(150, 205), list(pair(0, 1), pair(2, 0)), list(1), nil},
}

// P9.2: each slot takes the least movement that is left, the earlier one first.
func TestMatches(t *testing.T) {
	for _, x := range scenes {
		isList(t, "Matches: "+x.what, ok[[]use.Match](t)(use.Matches(x.r, x.slots, x.records)), x.want)
		isList(t, "the model: "+x.what, matches(x.r, x.slots, x.records), x.want)
		isList(t, "Missed: "+x.what, ok[[]int](t)(use.Missed(x.r, x.slots, x.records)), x.missed)
		isList(t, "Extra: "+x.what, ok[[]int](t)(use.Extra(x.r, x.slots, x.records)), x.extra)
		is(t, "CheckMatches: "+x.what, use.CheckMatches(x.r, x.slots, x.records, x.want), api.OK)
	}
	for i, name := range list("Matches", "Missed", "Extra") {
		isFirstFault(t, name, example())
		isModel(t, name, noise(21+i), api.ErrRange, api.ErrName, api.ErrKind)
	}
}

// P9.2: pairs are accepted also when there are fewer than the matches, or other ones.
func TestCheckMatches(t *testing.T) {
	slots, records := at(100, 120, 100), at(95, 110, 140, 300)
	for _, x := range []struct {
		what string
		l    []use.Match
		e    api.Errno
	}{
		{"none", nil, api.OK},
		{"all", list(pair(0, 0), pair(1, 2), pair(2, 1)), api.OK},
		{"the last one alone", list(pair(2, 1)), api.OK},
		{"other ones", list(pair(0, 1), pair(1, 2), pair(2, 0)), api.OK},
		{"no slot", list(pair(-1, 0)), api.ErrUnknown},
		{"no slot behind the last one", list(pair(0, 0), pair(3, 0)), api.ErrUnknown},
		{"no movement", list(pair(0, -1)), api.ErrUnknown},
		{"no movement behind the last one", list(pair(0, 4), pair(0, 0)), api.ErrUnknown},
		{"no movement, and the same slot", list(pair(0, 0), pair(0, 4)), api.ErrUnknown},
		{"the same slot", list(pair(0, 0), pair(0, 0)), api.ErrOrder},
		{"the same slot with another movement", list(pair(1, 1), pair(1, 2)), api.ErrOrder},
		{"slots that descend", list(pair(1, 2), pair(0, 0)), api.ErrOrder},
		{"slots that descend, and no pair", list(pair(1, 2), pair(0, 3)), api.ErrOrder},
		{"the same movement", list(pair(0, 1), pair(1, 1)), api.ErrTwice},
		{"the same movement behind another one", list(pair(0, 0), pair(1, 1), pair(2, 0)), api.ErrTwice},
		{"the same movement, and no pair", list(pair(0, 2), pair(2, 2)), api.ErrRule},
		{"the same movement, which is no pair with the second slot", list(pair(1, 2), pair(2, 2)), api.ErrTwice},
		{"no pair", list(pair(0, 2)), api.ErrRule},
		{"no pair before an error", list(pair(0, 3), pair(9, 9)), api.ErrRule},
		{"no pair, too early", list(pair(1, 0)), api.ErrRule},
	} {
		is(t, "CheckMatches: "+x.what, use.CheckMatches(rule(), slots, records, x.l), x.e)
		is(t, "the model: "+x.what, matchesError(rule(), slots, records, x.l), x.e)
	}
	for _, other := range list(slot("y", 100, "A"), slot("x", 100, "D")) {
		is(t, fmt.Sprint("no pair: ", other), use.CheckMatches(rule(), slots, list(other), list(pair(0, 0))), api.ErrRule)
	}
	isFirstFault(t, "CheckMatches", example(), fault{"an unknown slot", api.ErrUnknown, func(x *arguments) { x.matches = list(pair(9, 0)) }})
	isModel(t, "CheckMatches", 25, api.ErrUnknown, api.ErrOrder, api.ErrTwice, api.ErrRule)
}

// P9.2: consecutive matches, in the order in which they were made, that differ by more than Off.
func TestMisused(t *testing.T) {
	for _, x := range []struct {
		what    string
		off     int
		run     int
		slots   []use.Slot
		records []use.Slot
		want    bool
	}{
		{"nothing", 0, 1, nil, nil, false},
		{"no matches", 0, 1, at(100), at(500), false},
		{"as much as Off, late", 10, 1, at(100), at(110), false},
		{"as much as Off, early", 10, 1, at(100), at(90), false},
		{"more than Off, late", 10, 1, at(100), at(111), true},
		{"more than Off, early", 10, 1, at(100), at(89), true},
		{"punctual", 0, 1, at(100), at(100), false},
		{"a minute", 0, 1, at(100), at(101), true},
		{"fewer than Run", 10, 3, at(100, 200), at(111, 211), false},
		{"as many as Run", 10, 2, at(100, 200), at(111, 189), true},
		{"more than Run", 10, 2, at(100, 200, 300), at(111, 211, 311), true},
		{"not consecutive", 10, 2, at(100, 200, 300), at(111, 200, 311), false},
		{"the last ones", 10, 2, at(100, 200, 300), at(100, 211, 311), true},
		{"the first ones", 10, 2, at(100, 200, 300), at(111, 211, 300), true},
		{"a slot in between that is in no match", 10, 2, at(100, 200, 300), at(111, 311), true},
		{"by moments, not by indices", 10, 2, at(100, 300, 200), at(111, 300, 211), true},
		{"by indices, but not by moments", 10, 2, at(100, 300, 200), at(111, 311, 200), false},
		{"equal moments, by indices", 10, 2, list(slot("x", 100, "A"), slot("x", 100, "D"), slot("y", 100, "A")), list(slot("x", 111, "A"), slot("x", 100, "D"), slot("y", 111, "A")), false},
		{"several series", 10, 2, list(slot("x", 100, "A"), slot("y", 200, "D")), list(slot("x", 111, "A"), slot("y", 211, "D")), true},
		{"with the matches, not the nearest movements", 5, 2, at(100, 110), at(110, 100, 92), true},
	} {
		r := rule(misuse(x.off, x.run))
		is(t, "Misused: "+x.what, ok[bool](t)(use.Misused(r, x.slots, x.records)), x.want)
		is(t, "the model: "+x.what, isMisused(r, x.slots, x.records), x.want)
	}
	is(t, "with the greatest Off", ok[bool](t)(use.Misused(rule(within(720, 720), misuse(720, 1)), at(1000), at(1720))), false)
	is(t, "with the greatest Run", ok[bool](t)(use.Misused(rule(misuse(0, 512)), at(everyHour(512, 0)...), at(everyHour(512, 1)...))), true)
	is(t, "with one less than Run", ok[bool](t)(use.Misused(rule(misuse(0, 512)), at(everyHour(511, 0)...), at(everyHour(511, 1)...))), false)
	isFirstFault(t, "Misused", example())
	isModel(t, "Misused", 26, api.ErrRange, api.ErrName, api.ErrKind)
	seen := map[bool]int{}
	x := noise(27)
	for range 2000 {
		a := x.someArguments()
		seen[functionOf("Misused").want(a).is]++
	}
	is(t, fmt.Sprint("there are some of each: ", seen), seen[true] > 100 && seen[false] > 100, true)
}

// everyHour returns n moments, an hour apart, at a minute of the hour.
func everyHour(n, minute int) []int {
	var all []int
	for i := range n {
		all = append(all, 60*i+minute)
	}
	return all
}
