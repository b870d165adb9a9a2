package message_test

import (
	"fmt"
	"math"
	"slices"
	"strings"
	"testing"

	"turnround/api"
	"turnround/message"
)

const (
	line24 = "N ab q1 A far 08900 08920 1030000 1005 180 4 12 t1 -"
	head24 = "SLOTS REQ here S2024 08800\n"
)

var (
	actionsOfRequests = []string{"N", "H", "C", "R", "D"}
	actionsOfAnswers  = []string{"K", "O", "U", "X"}

	noNames = []string{"-", "1a", "_a", "a-b", "a b", "a\n", "\x00", "\xff", "ä", "aé", strings.Repeat("a", 25)}
	names   = []string{"a", "Z", "q1", "A_9", strings.Repeat("x", 24)}

	noSeasons = []string{"", "S", "S202", "S20244", "s2024", "X2024", "2024S", "S20a4", "S202 ", "S202é", "S\xff\xff24", "S-024", "S+024", " S2024"}
	noDays    = []int{math.MinInt, -1, 100000, math.MaxInt}
	noMinutes = []int{math.MinInt, -1, 1440, 9999, math.MaxInt}
)

// q is the request of the chapter's examples.
func q() api.Request {
	return api.Request{
		Name: "q1", Carrier: "ab", Kind: "A", Terminal: "t1", Partner: "far",
		Period: api.Period{From: 8900, To: 8920, Days: 5},
		Minute: 605, Seats: 180, Size: 4, Noise: 12,
	}
}

// with returns the request of the examples with changes.
func with(changes ...func(*api.Request)) api.Request {
	r := q()
	for _, change := range changes {
		change(&r)
	}
	return r
}

func named(name string) func(*api.Request) {
	return func(r *api.Request) { r.Name = name }
}

func of(carrier string) func(*api.Request) {
	return func(r *api.Request) { r.Carrier = carrier }
}

func at(minute int) func(*api.Request) {
	return func(r *api.Request) { r.Minute = minute }
}

func linked(kind, link string) func(*api.Request) {
	return func(r *api.Request) { r.Kind, r.Link = kind, link }
}

// badRequest is a request with an error.
type badRequest struct {
	what string
	r    api.Request
	e    api.Errno
}

// badRequests has requests with each error, and with later errors beside it.
func badRequests() []badRequest {
	var all []badRequest
	add := func(what string, e api.Errno, changes ...func(*api.Request)) {
		all = append(all, badRequest{what, with(changes...), e})
	}
	noKind := func(r *api.Request) { r.Kind = "" }
	selfLink := func(r *api.Request) { r.Link = r.Name }
	noPeriod := func(r *api.Request) { r.Period.To = r.Period.From - 1 }
	noSize := func(r *api.Request) { r.Size = 0 }
	for _, s := range append([]string{""}, noNames...) {
		add("name "+s, api.ErrName, named(s))
		add("carrier "+s, api.ErrName, of(s))
		add("partner "+s, api.ErrName, func(r *api.Request) { r.Partner = s })
		add("partner "+s+" and more", api.ErrName, func(r *api.Request) { r.Partner = s }, noKind, selfLink, noPeriod, noSize)
	}
	for _, s := range noNames {
		add("terminal "+s, api.ErrName, func(r *api.Request) { r.Terminal = s })
		add("link "+s, api.ErrName, func(r *api.Request) { r.Link = s })
		add("link "+s+" and more", api.ErrName, func(r *api.Request) { r.Link = s }, noKind, noPeriod, noSize)
	}
	for _, s := range []string{"", "a", "d", "T", "AD", "A ", "\x00"} {
		add("kind "+s, api.ErrKind, func(r *api.Request) { r.Kind = s })
	}
	add("kind and more", api.ErrKind, noKind, selfLink, noPeriod, noSize)
	add("link to itself", api.ErrPair, selfLink)
	add("link to itself and more", api.ErrPair, selfLink, noPeriod, noSize)
	for _, p := range []struct {
		p api.Period
		e api.Errno
	}{
		{api.Period{From: -1, To: 10, Days: 1}, api.ErrRange},
		{api.Period{From: 10, To: 100000, Days: 1}, api.ErrRange},
		{api.Period{From: 11, To: 10, Days: 1}, api.ErrOrder},
		{api.Period{From: 10, To: 411, Days: 1}, api.ErrLarge},
		{api.Period{From: 10, To: 20, Days: 0}, api.ErrRange},
		{api.Period{From: 10, To: 20, Days: 128}, api.ErrRange},
	} {
		add(fmt.Sprint("period ", p.p), p.e, func(r *api.Request) { r.Period = p.p })
		add(fmt.Sprint("period ", p.p, " and more"), p.e, func(r *api.Request) { r.Period = p.p }, at(-1), noSize)
	}
	for _, n := range noMinutes {
		add(fmt.Sprint("minute ", n), api.ErrRange, at(n))
	}
	for _, n := range []int{math.MinInt, -1, 1000, math.MaxInt} {
		add(fmt.Sprint("seats ", n), api.ErrRange, func(r *api.Request) { r.Seats = n })
	}
	for _, n := range []int{math.MinInt, -1, 0, 10, math.MaxInt} {
		add(fmt.Sprint("size ", n), api.ErrRange, func(r *api.Request) { r.Size = n })
	}
	for _, n := range []int{math.MinInt, -1, 100, math.MaxInt} {
		add(fmt.Sprint("noise ", n), api.ErrRange, func(r *api.Request) { r.Noise = n })
	}
	return all
}

// goodRequests has requests on the edges of what is permitted.
func goodRequests() []api.Request {
	all := []api.Request{q()}
	for _, s := range names {
		all = append(all,
			with(named(s)), with(of(s)),
			with(func(r *api.Request) { r.Partner = s }),
			with(func(r *api.Request) { r.Terminal = s }),
			with(named("other"), func(r *api.Request) { r.Link = s }),
			with(named(s), of(s), func(r *api.Request) { r.Terminal, r.Partner = s, s }),
		)
	}
	for _, p := range []api.Period{{From: 0, To: 0, Days: 1}, {From: 99599, To: 99999, Days: 127}, {From: 0, To: 400, Days: 64}, {From: 9, To: 9, Days: 126}} {
		all = append(all, with(func(r *api.Request) { r.Period = p }))
	}
	return append(all,
		with(linked("D", "")), with(linked("D", "q2")), with(linked("A", "ab")),
		with(func(r *api.Request) { r.Terminal = "" }),
		with(at(0)), with(at(59)), with(at(60)), with(at(1439)),
		with(func(r *api.Request) { r.Seats = 0 }), with(func(r *api.Request) { r.Seats = 7 }), with(func(r *api.Request) { r.Seats = 999 }),
		with(func(r *api.Request) { r.Size = 1 }), with(func(r *api.Request) { r.Size = 9 }),
		with(func(r *api.Request) { r.Noise = 0 }), with(func(r *api.Request) { r.Noise = 9 }), with(func(r *api.Request) { r.Noise = 99 }),
	)
}

// series returns n requests with the names q0, q1, ..
func series(n int) []api.Request {
	var all []api.Request
	for i := range n {
		all = append(all, with(named(fmt.Sprint("q", i))))
	}
	return all
}

// asks returns a message of requests with lines, on the day of the examples.
func asks(lines ...message.Line) message.Message {
	return message.Message{Kind: "REQ", Airport: "here", Season: "S2024", Day: 8800, Lines: lines}
}

// answersOf returns an answer with lines, on the day of the examples.
func answersOf(lines ...message.Line) message.Message {
	m := asks(lines...)
	m.Kind = "ANS"
	return m
}

func line(action string, r api.Request) message.Line {
	return message.Line{Action: action, Request: r}
}

// lines returns lines with one action.
func lines(action string, requests []api.Request) []message.Line {
	var all []message.Line
	for _, r := range requests {
		all = append(all, line(action, r))
	}
	return all
}

func is[T comparable](t *testing.T, what string, got, want T) {
	t.Helper()
	if got != want {
		t.Errorf("%s: got %v, want %v", what, got, want)
	}
}

// isList compares lists; nil and empty ones are equal.
func isList[T comparable](t *testing.T, what string, got, want []T) {
	t.Helper()
	if !slices.Equal(got, want) {
		t.Errorf("%s: got %v, want %v", what, got, want)
	}
}

func isMessage(t *testing.T, what string, got, want message.Message) {
	t.Helper()
	is(t, what+": kind", got.Kind, want.Kind)
	is(t, what+": airport", got.Airport, want.Airport)
	is(t, what+": season", got.Season, want.Season)
	is(t, what+": day", got.Day, want.Day)
	isList(t, what+": lines", got.Lines, want.Lines)
}

// noise is a fixed sequence of numbers from 0 to n - 1 for inputs of many forms.
type noise uint32

func (x *noise) next(n int) int {
	*x = *x*1664525 + 1013904223
	return int(*x>>8) % n
}
