package use_test

import (
	"fmt"
	"testing"

	"turnround/api"
	"turnround/calendar"
	"turnround/use"
)

// P9.6: the chapter's fourth example.
func TestExampleHistoric(t *testing.T) {
	isList(t, "day 9594", ok[[]api.Period](t)(use.Historic(on(9594, 9594, 127), summer)), list(on(9230, 9230, 4)))
}

// P9.6: the days in another season that are equivalent to those of a period. S of 2026 has 30 weeks, S of 2027 31, W of 2026 22, and W of 2025 22, too.
func TestHistoric(t *testing.T) {
	s := func(year int, kind string) calendar.Season { return calendar.Season{Year: year, Kind: kind} }
	for _, x := range []struct {
		what string
		p    api.Period
		s    calendar.Season
		want []api.Period
		e    api.Errno
	}{
		{"its own season", on(9594, 9600, 127), s(2026, "S"), list(on(9594, 9598, 124), on(9599, 9600, 3)), api.OK},
		{"weekends", on(9590, 9610, 96), summer, list(on(9226, 9241, 96)), api.OK},
		{"the first day", on(9584, 9584, 127), summer, list(on(9220, 9220, 64)), api.OK},
		{"the last day of a season", on(9793, 9793, 127), s(2024, "S"), list(on(9065, 9065, 32)), api.OK},
		{"all days of a season", on(9584, 9793, 127), s(2026, "S"), list(on(9584, 9584, 64), on(9585, 9787, 127), on(9788, 9793, 63)), api.OK},
		{"Sundays of a season", on(9584, 9793, 64), summer, list(on(9220, 9423, 64)), api.OK},
		{"all days of a longer season", on(9948, 10164, 127), s(2026, "S"), list(on(9584, 9584, 64), on(9585, 9787, 127), on(9788, 9793, 63)), api.OK},
		{"the last week of a longer season", on(10158, 10164, 127), s(2026, "S"), nil, api.OK},
		{"the last weeks of a longer season", on(10151, 10164, 16), s(2026, "S"), list(on(9792, 9792, 16)), api.OK},
		{"the last week in a season as long", on(10158, 10164, 64), s(2027, "S"), list(on(10158, 10158, 64)), api.OK},
		{"a winter", on(9794, 9800, 127), winter, list(on(9430, 9430, 64), on(9431, 9436, 63)), api.OK},
		{"no days", on(9594, 9594, 64), winter, nil, api.OK},
		{"no days before all seasons", on(5, 5, 64), summer, nil, api.OK},
		{"no days on the edge of two seasons", on(9790, 9796, 64), summer, nil, api.ErrKind},
		{"no season is before all seasons", on(84, 84, 127), s(2000, "S"), nil, api.ErrOutside},
		{"the first season", on(85, 85, 127), s(2000, "S"), list(on(85, 85, 64)), api.OK},
		{"partly before all seasons", on(84, 85, 127), s(2000, "S"), nil, api.ErrOutside},
		{"by its mask in the first season", on(84, 85, 64), s(2000, "S"), list(on(85, 85, 64)), api.OK},
		{"long before all seasons", on(0, 300, 127), s(2000, "W"), nil, api.ErrOutside},
		{"after all seasons", on(99800, 99999, 127), s(2272, "W"), nil, api.ErrOutside},
		{"two seasons", on(9793, 9794, 127), summer, nil, api.ErrOutside},
		{"two seasons, the other one of the kind", on(9793, 9794, 127), winter, nil, api.ErrOutside},
		{"the first of two seasons by its mask", on(9793, 9794, 32), summer, list(on(9429, 9429, 32)), api.OK},
		{"the second of two seasons by its mask", on(9793, 9794, 64), winter, list(on(9430, 9430, 64)), api.OK},
		{"two seasons of one kind", on(9584, 9984, 64), summer, nil, api.ErrOutside},
		{"the ends of two seasons of one kind", on(9584, 9950, 127), summer, nil, api.ErrOutside},
		{"a summer in a winter", on(9594, 9594, 127), winter, nil, api.ErrKind},
		{"a winter in a summer", on(9800, 9800, 127), summer, nil, api.ErrKind},
	} {
		got := ofPeriods(use.Historic(x.p, x.s))
		isOutcome(t, "Historic: "+x.what, got, outcome{periods: x.want, e: x.e})
		isOutcome(t, "the model: "+x.what, ofPeriods(historic(x.p, x.s)), outcome{periods: x.want, e: x.e})
	}
	isFirstFault(t, "Historic", example(),
		fault{"two seasons", api.ErrOutside, func(x *arguments) { x.p = on(9793, 9794, 127) }},
		fault{"another kind", api.ErrKind, func(x *arguments) { x.p, x.s = on(9793, 9793, 127), winter }},
	)
	isModel(t, "Historic", 61, api.ErrRange, api.ErrOrder, api.ErrKind, api.ErrOutside)
}

// P9.6: the rights of some series, of which x has flown all of its slots and y one of two.
func TestRights(t *testing.T) {
	x, y := request("x", "A", on(9594, 9594, 127), 600), request("y", "D", on(9595, 9596, 127), 60)
	l := list(fly("x", 1440*9594+610, "A"), fly("y", 1440*9595+60, "D"))
	half := rule(share(50), notice(0))
	rightOf := func(name string, periods ...api.Period) use.Right { return use.Right{Name: name, Periods: periods} }
	rightX, rightY := rightOf("x", on(9230, 9230, 4)), rightOf("y", on(9231, 9232, 24))
	apart := func(q api.Request, p api.Period) api.Request {
		q.Period = p
		return q
	}
	for _, row := range []struct {
		what     string
		r        use.Rule
		requests []api.Request
		l        []use.Note
		s        calendar.Season
		want     []use.Right
		e        api.Errno
	}{
		{"no requests", rule(), nil, l, summer, nil, api.OK},
		{"no records", rule(), list(x, y), nil, summer, nil, api.OK},
		{"one of two", rule(), list(x, y), l, summer, list(rightX), api.OK},
		{"both", half, list(x, y), l, summer, list(rightX, rightY), api.OK},
		{"in the order of the requests", half, list(y, x), l, summer, list(rightY, rightX), api.OK},
		{"the other kind", half, list(request("x", "D", x.Period, 600)), l, summer, nil, api.OK},
		{"another minute", half, list(request("x", "A", x.Period, 700)), l, summer, nil, api.OK},
		{"a series without days", half, list(apart(x, on(9594, 9594, 64))), append(l, weather(0, 99999)), summer, nil, api.OK},
		{"a series that is returned", half, list(x, y), append(l, back("x", 9594, 9594, 9594)), summer, list(rightY), api.OK},
		{"the other slot is returned", rule(notice(0)), list(x, y), append(l, back("y", 9596, 9596, 9596)), summer, list(rightX, rightY), api.OK},
		{"weather", rule(), list(x, y), list(weather(9594, 9596)), summer, list(rightX, rightY), api.OK},
		{"no equivalent days", rule(), list(apart(x, on(10158, 10164, 127))), list(weather(10158, 10164)), calendar.Season{Year: 2026, Kind: "S"}, list(rightOf("x")), api.OK},
		{"in winter", rule(), list(x, y), l, winter, nil, api.ErrKind},
		{"in winter, no right is kept", rule(), list(y), l, winter, nil, api.OK},
		{"in winter, the second one", rule(), list(y, x), l, winter, nil, api.ErrKind},
		{"two seasons", rule(), list(apart(x, on(9793, 9794, 127))), list(weather(9793, 9794)), summer, nil, api.ErrOutside},
		{"the first error of two", rule(), list(y, apart(x, on(9793, 9794, 127)), request("z", "A", on(9594, 9594, 127), 600)), list(weather(9793, 9794), weather(9594, 9594)), winter, nil, api.ErrOutside},
		{"the other error first", rule(), list(request("z", "A", on(9594, 9594, 127), 600), apart(x, on(9793, 9794, 127))), list(weather(9793, 9794), weather(9594, 9594)), winter, nil, api.ErrKind},
		{"two seasons without a right", rule(), list(apart(x, on(9793, 9794, 127))), nil, summer, nil, api.OK},
		{"no season without a right", rule(), list(apart(x, on(5, 5, 127))), nil, summer, nil, api.OK},
	} {
		got := ofRights(use.Rights(row.r, row.requests, row.l, row.s))
		isOutcome(t, "Rights: "+row.what, got, outcome{rights: row.want, e: row.e})
		isOutcome(t, "the model: "+row.what, ofRights(rights(row.r, row.requests, row.l, row.s)), outcome{rights: row.want, e: row.e})
	}
	base := example()
	base.l = append(base.l, weather(9594, 9600))
	isFirstFault(t, "Rights", base, fault{"another kind", api.ErrKind, func(x *arguments) { x.s = winter }})
	isModel(t, "Rights", 62, api.ErrName, api.ErrRange, api.ErrKind, api.ErrOutside)
}

// P9.6: rights that are kept in random seasons.
func TestSomeRights(t *testing.T) {
	x := noise(63)
	seen := map[int]int{}
	for range 1000 {
		a := x.someArguments()
		want := functionOf("Rights").want(a)
		seen[len(want.rights)]++
	}
	is(t, fmt.Sprint("there are some of each number: ", seen), seen[1] > 50 && seen[2] > 10, true)
}
