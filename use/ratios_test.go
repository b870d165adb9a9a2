package use_test

import (
	"fmt"
	"testing"

	"turnround/api"
	"turnround/use"
)

// P9.5: all ratios with few slots, and some with many.
func TestKeptAndMissing(t *testing.T) {
	for _, x := range []struct {
		percent    int
		flown, due int
		kept       bool
		missing    int
	}{
		{80, 0, 0, false, 0}, {80, 3, 5, false, 1}, {80, 4, 5, true, 0}, {80, 5, 5, true, 0}, {80, 3, 4, false, 1}, {80, 0, 512, false, 410},
		{80, 409, 512, false, 1}, {80, 410, 512, true, 0}, {1, 0, 1, false, 1}, {1, 1, 1, true, 0}, {1, 1, 100, true, 0}, {1, 1, 101, false, 1}, {1, 2, 200, true, 0},
		{100, 511, 512, false, 1}, {100, 512, 512, true, 0}, {100, 0, 512, false, 512}, {100, 0, 0, false, 0}, {50, 1, 2, true, 0}, {50, 1, 3, false, 1}, {33, 1, 3, true, 0}, {34, 1, 3, false, 1},
	} {
		r, ratio := rule(share(x.percent)), use.Ratio{Flown: x.flown, Due: x.due}
		is(t, fmt.Sprint("Kept ", x.percent, ratio), ok[bool](t)(use.Kept(r, ratio)), x.kept)
		is(t, fmt.Sprint("Missing ", x.percent, ratio), ok[int](t)(use.Missing(r, ratio)), x.missing)
	}
	for percent := 1; percent <= 100; percent++ {
		for due := 0; due <= 12; due++ {
			for flown := 0; flown <= due; flown++ {
				r, x := rule(share(percent)), use.Ratio{Flown: flown, Due: due}
				is(t, fmt.Sprint("Kept ", percent, x), ok[bool](t)(use.Kept(r, x)), keeps(r, x))
				is(t, fmt.Sprint("Missing ", percent, x), ok[int](t)(use.Missing(r, x)), missing(r, x))
			}
		}
	}
	for i, name := range list("Kept", "Missing") {
		isFirstFault(t, name, example())
		isModel(t, name, noise(51+i), api.ErrRange)
	}
}

// P9.5: days 0 to 6 are Saturday to Friday.
func TestWeekdays(t *testing.T) {
	half := rule(share(50), notice(0))
	for _, x := range []struct {
		what  string
		r     use.Rule
		slots []use.Slot
		l     []use.Note
		want  int
	}{
		{"no slots", half, nil, nil, 0},
		{"nothing is flown", half, slotsOf("x", "A", on(0, 6, 127), 600), nil, 0},
		{"all are excused", half, slotsOf("x", "A", on(0, 6, 127), 600), list(weather(0, 6)), 127},
		{"all are returned", half, slotsOf("x", "A", on(0, 6, 127), 600), list(back("x", 0, 6, 0)), 0},
		{"Saturday", half, slotsOf("x", "A", on(0, 6, 127), 600), list(fly("x", 600, "A")), 32},
		{"Monday and Friday", half, slotsOf("x", "A", on(0, 6, 127), 600), list(weather(2, 2), weather(6, 6)), 17},
		{"one of two Sundays", half, slotsOf("x", "A", on(0, 8, 127), 600), list(weather(8, 8)), 64},
		{"one of two Sundays is not enough", rule(share(51)), slotsOf("x", "A", on(0, 8, 127), 600), list(weather(8, 8)), 0},
		{"one of two Sundays, and the other one is returned", rule(notice(0)), slotsOf("x", "A", on(0, 8, 127), 600), list(weather(8, 8), back("x", 1, 1, 0)), 64},
		{"two series on a day", half, append(slotsOf("x", "A", on(3, 3, 127), 600), slotsOf("y", "A", on(3, 3, 127), 600)...), list(cancel("x", 3, 3, "strike")), 2},
		{"the movement is that of the slot the day before", half, at(1435, 1445), list(fly("x", 1440, "A")), 32},
		{"the slot the day before is returned", half, at(1435, 1445), list(fly("x", 1440, "A"), back("x", 0, 0, 0)), 64},
	} {
		is(t, "Weekdays: "+x.what, ok[int](t)(use.Weekdays(x.r, x.slots, x.l)), x.want)
		is(t, "the model: "+x.what, weekdays(x.r, x.slots, x.l), x.want)
	}
	is(t, "the chapter's second example", ok[int](t)(use.Weekdays(rule(), five(t), fiveNotes())), 32+64+2)
	isFirstFault(t, "Weekdays", example())
	isModel(t, "Weekdays", 53, api.ErrRange, api.ErrName, api.ErrKind, api.ErrForm)
}

// P9.5: a row for each name, in ascending order by bytes.
func TestTable(t *testing.T) {
	row := func(name string, flown, due int, kept bool) use.Row {
		return use.Row{Name: name, Ratio: use.Ratio{Flown: flown, Due: due}, Kept: kept}
	}
	slots := list(slot("b", 100, "A"), slot("a", 100, "D"), slot("B", 5000, "A"), slot("a", 3000, "A"), slot("b", 200, "A"), slot("a1", 100, "A"))
	for _, x := range []struct {
		what string
		l    []use.Note
		want []use.Row
	}{
		{"no records", nil, list(row("B", 0, 1, false), row("a", 0, 2, false), row("a1", 0, 1, false), row("b", 0, 2, false))},
		{"some flown", list(fly("a", 100, "D"), fly("b", 201, "A"), fly("b", 99, "A"), fly("c", 5, "A")), list(row("B", 0, 1, false), row("a", 1, 2, false), row("a1", 0, 1, false), row("b", 2, 2, true))},
		{"one returned", list(fly("a", 100, "D"), back("a", 2, 2, 0), weather(3, 3)), list(row("B", 1, 1, true), row("a", 1, 1, true), row("a1", 0, 1, false), row("b", 0, 2, false))},
		{"all of one returned", list(back("b", 0, 9, 0)), list(row("B", 0, 1, false), row("a", 0, 2, false), row("a1", 0, 1, false), row("b", 0, 0, false))},
	} {
		isList(t, "Table: "+x.what, ok[[]use.Row](t)(use.Table(rule(notice(0)), slots, x.l)), x.want)
		isList(t, "the model: "+x.what, table(rule(notice(0)), slots, x.l), x.want)
	}
	isList(t, "Table of no slots", ok[[]use.Row](t)(use.Table(rule(), nil, fiveNotes())), nil)
	isList(t, "the chapter's second example", ok[[]use.Row](t)(use.Table(rule(), append(five(t), slot("a", 5, "A")), fiveNotes())), list(row("a", 0, 1, false), row("x", 3, 5, false)))
	isFirstFault(t, "Table", example())
	isModel(t, "Table", 54, api.ErrRange, api.ErrName, api.ErrKind, api.ErrForm)
}
