package message_test

import (
	"fmt"
	"math"
	"slices"
	"testing"

	"turnround/api"
	"turnround/message"
)

// P2.1: requests on the edges of what is permitted have no error.
func TestGoodRequests(t *testing.T) {
	for _, r := range goodRequests() {
		is(t, fmt.Sprint("CheckRequest of ", r), message.CheckRequest(r), api.OK)
	}
}

// P2.1: each error of a request, in their order.
func TestBadRequests(t *testing.T) {
	for _, x := range badRequests() {
		is(t, "CheckRequest: "+x.what, message.CheckRequest(x.r), x.e)
	}
	is(t, "CheckRequest of nothing", message.CheckRequest(api.Request{}), api.ErrName)
}

// P2.1: CheckLine has the error of the action, then that of the request.
func TestCheckLine(t *testing.T) {
	for _, action := range slices.Concat(actionsOfRequests, actionsOfAnswers) {
		is(t, "CheckLine with "+action, message.CheckLine(line(action, q())), api.OK)
		for _, x := range badRequests() {
			is(t, "CheckLine with "+action+": "+x.what, message.CheckLine(line(action, x.r)), x.e)
		}
	}
	for _, action := range []string{"", "n", "Z", "NH", "N ", " N", "A", "\x00", "\xff"} {
		is(t, "CheckLine with "+action, message.CheckLine(line(action, q())), api.ErrKind)
		is(t, "CheckLine with "+action+" and nothing", message.CheckLine(line(action, api.Request{})), api.ErrKind)
	}
}

// P2.1: messages without an error.
func TestGoodMessages(t *testing.T) {
	other := with(at(1))
	for what, m := range map[string]message.Message{
		"no lines":                asks(),
		"each action of requests": asks(line("N", q()), line("H", q()), line("C", q()), line("R", other), line("D", q())),
		"each action of answers":  answersOf(line("K", q()), line("O", q()), line("U", q()), line("X", q())),
		"several changes":         asks(line("C", q()), line("R", other), line("C", other), line("R", q())),
		"a change that changes all": asks(line("C", q()), line("R", with(at(9), linked("D", "x"), func(r *api.Request) {
			r.Period.Days, r.Seats, r.Size, r.Noise, r.Terminal, r.Partner = 1, 0, 1, 0, "", "f"
		}))),
		"64 lines":                    asks(lines("N", series(64))...),
		"the first day":               {Kind: "REQ", Airport: "a", Season: "W0000", Day: 0},
		"the last day":                {Kind: "ANS", Airport: "a", Season: "S9999", Day: 99999},
		"a long name":                 {Kind: "ANS", Airport: names[4], Season: "W2024"},
		"the same request many times": asks(lines("N", []api.Request{q(), q(), q()})...),
	} {
		is(t, "CheckMessage: "+what, message.CheckMessage(m), api.OK)
	}
}

// P2.1: each error of the header of a message, in their order, and before those of lines.
func TestBadHeaders(t *testing.T) {
	worst := asks(lines("?", make([]api.Request, 65))...)
	for _, m := range []message.Message{asks(), worst} {
		for _, kind := range []string{"", "req", "REQ ", "RE", "ANS\n", "END", "\xff"} {
			bad := m
			bad.Kind, bad.Airport, bad.Season, bad.Day = kind, "", "", -1
			is(t, "CheckMessage with the kind "+kind, message.CheckMessage(bad), api.ErrKind)
			bad.Airport, bad.Season, bad.Day = "here", "S2024", 0
			is(t, "CheckMessage with the kind "+kind, message.CheckMessage(bad), api.ErrKind)
		}
		for _, airport := range append([]string{""}, noNames...) {
			bad := m
			bad.Airport = airport
			is(t, "CheckMessage with the airport "+airport, message.CheckMessage(bad), api.ErrName)
			bad.Season, bad.Day = "", -1
			is(t, "CheckMessage with the airport "+airport, message.CheckMessage(bad), api.ErrName)
		}
		for _, season := range noSeasons {
			bad := m
			bad.Season = season
			is(t, "CheckMessage with the season "+season, message.CheckMessage(bad), api.ErrForm)
			bad.Day = -1
			is(t, "CheckMessage with the season "+season, message.CheckMessage(bad), api.ErrForm)
		}
		for _, day := range noDays {
			bad := m
			bad.Day = day
			is(t, fmt.Sprint("CheckMessage with the day ", day), message.CheckMessage(bad), api.ErrRange)
		}
	}
	is(t, "CheckMessage with 65 wrong lines", message.CheckMessage(worst), api.ErrMany)
	is(t, "CheckMessage with 65 lines", message.CheckMessage(asks(lines("N", series(65))...)), api.ErrMany)
	is(t, "CheckMessage of nothing", message.CheckMessage(message.Message{}), api.ErrKind)
}

// badLines has lines of a message of requests with each error, in their order.
var badLines = []struct {
	what  string
	lines []message.Line
	e     api.Errno
}{
	{"no action", []message.Line{line("", q())}, api.ErrKind},
	{"an error of the request", []message.Line{line("N", with(at(-1)))}, api.ErrRange},
	{"K", []message.Line{line("K", q())}, api.ErrRule},
	{"O", []message.Line{line("N", q()), line("O", q())}, api.ErrRule},
	{"U", []message.Line{line("U", q())}, api.ErrRule},
	{"X", []message.Line{line("X", q())}, api.ErrRule},
	{"an answer with an error of the request", []message.Line{line("K", with(at(-1)))}, api.ErrRange},
	{"R at the beginning", []message.Line{line("R", q())}, api.ErrOrder},
	{"R behind N", []message.Line{line("N", q()), line("R", q())}, api.ErrOrder},
	{"R behind H", []message.Line{line("H", q()), line("R", q())}, api.ErrOrder},
	{"R behind D", []message.Line{line("D", q()), line("R", q())}, api.ErrOrder},
	{"R behind R", []message.Line{line("C", q()), line("R", q()), line("R", q())}, api.ErrOrder},
	{"N behind C", []message.Line{line("C", q()), line("N", q())}, api.ErrOrder},
	{"D behind C", []message.Line{line("C", q()), line("D", q())}, api.ErrOrder},
	{"C behind C", []message.Line{line("C", q()), line("C", q()), line("R", q())}, api.ErrOrder},
	{"R of another name", []message.Line{line("C", q()), line("R", with(named("q2")))}, api.ErrOrder},
	{"R of another carrier", []message.Line{line("C", q()), line("R", with(of("cd")))}, api.ErrOrder},
	{"R with name and carrier exchanged", []message.Line{line("C", q()), line("R", with(named("ab"), of("q1")))}, api.ErrOrder},
	{"C at the end", []message.Line{line("C", q())}, api.ErrOrder},
	{"C at the end behind others", []message.Line{line("N", q()), line("C", q()), line("R", q()), line("C", q())}, api.ErrOrder},
	{"an answer behind C", []message.Line{line("C", q()), line("K", q())}, api.ErrRule},
	{"an error of the request behind C", []message.Line{line("C", q()), line("N", with(named("")))}, api.ErrName},
	{"an error of R", []message.Line{line("C", q()), line("R", with(of("cd"), at(-1)))}, api.ErrRange},
	{"a wrong line before others", []message.Line{line("R", q()), line("K", q()), line("", q())}, api.ErrOrder},
	{"a wrong line before C at the end", []message.Line{line("K", q()), line("C", q())}, api.ErrRule},
	{"a wrong line before others", []message.Line{line("K", q()), line("R", q())}, api.ErrRule},
}

// P2.1: each error of the lines of a message: the first wrong line decides, with its first error.
func TestBadLines(t *testing.T) {
	for _, x := range badLines {
		is(t, "CheckMessage: "+x.what, message.CheckMessage(asks(x.lines...)), x.e)
	}
	for _, action := range actionsOfRequests {
		is(t, "CheckMessage of an answer with "+action, message.CheckMessage(answersOf(line(action, q()))), api.ErrRule)
		is(t, "CheckMessage of an answer with K, then "+action, message.CheckMessage(answersOf(line("K", q()), line(action, q()))), api.ErrRule)
	}
	for _, x := range badRequests() {
		is(t, "CheckMessage: "+x.what, message.CheckMessage(asks(line("N", q()), line("D", x.r))), x.e)
	}
	is(t, "CheckMessage: C as the line 64", message.CheckMessage(asks(append(lines("N", series(63)), line("C", q()))...)), api.ErrOrder)
}

// P2.1: Pairs returns for each linked arrival its index and that of its departure.
func TestPairs(t *testing.T) {
	a, d := with(linked("A", "q2")), with(named("q2"), linked("D", "q1"))
	b, c := with(named("q3"), linked("A", "q4"), of("cd")), with(named("q4"), linked("D", "q3"), of("cd"))
	alone := with(named("q5"))
	for _, x := range []struct {
		requests []api.Request
		want     [][2]int
	}{
		{nil, nil},
		{[]api.Request{alone}, nil},
		{[]api.Request{a, d}, [][2]int{{0, 1}}},
		{[]api.Request{d, a}, [][2]int{{1, 0}}},
		{[]api.Request{d, b, alone, c, a}, [][2]int{{1, 3}, {4, 0}}},
		{[]api.Request{c, d, a, b}, [][2]int{{2, 1}, {3, 0}}},
	} {
		got, e := message.Pairs(x.requests)
		is(t, "Pairs", e, api.OK)
		isList(t, fmt.Sprint("Pairs of ", x.requests), got, x.want)
	}
	var all []api.Request
	var want [][2]int
	for i := range 32 {
		all = append(all, with(named(fmt.Sprint("d", i)), linked("D", fmt.Sprint("a", i))))
	}
	for i := range 32 {
		all = append(all, with(named(fmt.Sprint("a", i)), linked("A", fmt.Sprint("d", i))))
		want = append(want, [2]int{32 + i, i})
	}
	got, e := message.Pairs(all)
	is(t, "Pairs of 64", e, api.OK)
	isList(t, "Pairs of 64", got, want)
}

// P2.1: each error of Pairs: the first wrong request decides, with its first error.
func TestBadPairs(t *testing.T) {
	a, d := with(linked("A", "q2")), with(named("q2"), linked("D", "q1"))
	lost := with(named("q8"), linked("A", "q9"))
	for _, x := range []struct {
		what     string
		requests []api.Request
		e        api.Errno
	}{
		{"no such request", []api.Request{a}, api.ErrUnknown},
		{"the name of a carrier or a partner is none", []api.Request{with(linked("A", "ab")), with(named("q2"), linked("D", "far"))}, api.ErrUnknown},
		{"no link back", []api.Request{a, with(named("q2"), linked("D", ""))}, api.ErrPair},
		{"a link to another one", []api.Request{a, with(named("q2"), linked("D", "q3")), with(named("q3"), linked("A", "q2"))}, api.ErrPair},
		{"two arrivals", []api.Request{a, with(named("q2"), linked("A", "q1"))}, api.ErrPair},
		{"two departures", []api.Request{with(linked("D", "q2")), d}, api.ErrPair},
		{"another carrier", []api.Request{a, with(named("q2"), linked("D", "q1"), of("cd"))}, api.ErrPair},
		{"no link back, and the same kind", []api.Request{a, with(named("q2"))}, api.ErrPair},
		{"unknown before pair", []api.Request{lost, a, with(named("q2"))}, api.ErrUnknown},
		{"pair before unknown", []api.Request{a, with(named("q2")), lost}, api.ErrPair},
		{"behind a good pair", []api.Request{a, d, lost}, api.ErrUnknown},
	} {
		got, e := message.Pairs(x.requests)
		is(t, "Pairs: "+x.what, e, x.e)
		isList(t, "Pairs: "+x.what, got, nil)
	}
	for _, x := range badLists() {
		got, e := message.Pairs(x.requests)
		is(t, "Pairs: "+x.what, e, x.e)
		isList(t, "Pairs: "+x.what, got, nil)
	}
}

// badList is a list of requests with an error.
type badList struct {
	what     string
	requests []api.Request
	e        api.Errno
}

// badLists has lists of requests with each error, in their order.
func badLists() []badList {
	all := []badList{
		{"65 requests", series(65), api.ErrMany},
		{"65 empty requests", make([]api.Request, 65), api.ErrMany},
		{"twice", []api.Request{q(), q()}, api.ErrTwice},
		{"a name twice", []api.Request{q(), with(named("q2")), with(of("cd"), at(1), linked("D", ""))}, api.ErrTwice},
		{"twice among 64", append(series(63), with(named("q62"))), api.ErrTwice},
		{"twice, and an error of its own", []api.Request{q(), with(at(1440))}, api.ErrRange},
		{"twice before an error", []api.Request{q(), q(), with(named(""))}, api.ErrTwice},
		{"an error before twice", []api.Request{q(), with(named("")), q()}, api.ErrName},
		{"a link to nowhere, then an error", []api.Request{with(linked("A", "none")), with(named("q2"), at(math.MaxInt))}, api.ErrRange},
	}
	for _, x := range badRequests() {
		all = append(all, badList{x.what, []api.Request{with(named("q0")), x.r}, x.e})
	}
	return all
}
