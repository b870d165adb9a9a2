package message_test

import (
	"math"
	"slices"
	"strings"
	"testing"

	"turnround/api"
	"turnround/message"
)

var (
	oddNumbers = []int{math.MinInt, math.MinInt + 1, -1440, -1, 0, 1, 5, 9, 10, 59, 99, 100, 605, 999, 1000, 1439, 1440, 8800, 99999, 100000, math.MaxInt32, math.MaxInt}
	oddTexts   = []string{"", " ", "\n", "-", "A", "D", "N", "R", "q1", "REQ", "ANS", "END", "END 00\n", "S2024", "\x00", "\xff\xfe", "\xe2\x82", "äö", "2400", "SLOTS REQ here S2024 08800\n", strings.Repeat("N ", 13) + "N", strings.Repeat("9", 20000), strings.Repeat(" ", 20000), strings.Repeat("\n", 16384)}
)

// oddRequests has requests with odd strings and numbers in each field.
func oddRequests() []api.Request {
	all := goodRequests()
	for _, x := range badRequests() {
		all = append(all, x.r)
	}
	for i, s := range oddTexts {
		n := oddNumbers[i%len(oddNumbers)]
		all = append(all,
			api.Request{Name: s, Carrier: s, Kind: s, Terminal: s, Partner: s, Link: s, Period: api.Period{From: n, To: n, Days: n}, Minute: n, Seats: n, Size: n, Noise: n},
			with(named(s)), with(linked(s, s)),
		)
	}
	return append(all, api.Request{})
}

// P1: no strings and numbers make a function panic, and what stands beside an error is zero.
func TestOddArguments(t *testing.T) {
	for _, n := range oddNumbers {
		s, e := message.PrintMinute(n)
		is(t, "PrintMinute", s == "", e != api.OK)
	}
	for _, s := range oddTexts {
		n, e := message.ParseMinute(s)
		is(t, "ParseMinute of "+s[:min(20, len(s))], e == api.OK || n == 0, true)
		l, at, e := message.ParseLine(s)
		is(t, "ParseLine", l, message.Line{})
		is(t, "ParseLine", e != api.OK && 0 <= at && at <= 14, true)
		m, _, e := message.ParseMessage(s)
		isMessage(t, "ParseMessage", m, message.Message{})
		is(t, "ParseMessage", e != api.OK, true)
	}
	for _, r := range oddRequests() {
		e := message.CheckRequest(r)
		for _, action := range oddTexts {
			l := line(action, r)
			s, got := message.PrintLine(l)
			is(t, "PrintLine", got, message.CheckLine(l))
			is(t, "PrintLine", s == "", got != api.OK)
			s, got = message.PrintMessage(asks(l, l))
			is(t, "PrintMessage", got, message.CheckMessage(asks(l, l)))
			is(t, "PrintMessage", s == "", got != api.OK)
		}
		_, got := message.Changed([]api.Request{r}, nil)
		is(t, "Changed", got, e)
		_, got = message.Changed(nil, []api.Request{r})
		is(t, "Changed", got, e)
		_, _, got = message.Requests([]message.Message{asks(line("N", r))})
		is(t, "Requests", got, e)
		_, got = message.Pairs([]api.Request{r})
		is(t, "Pairs", got == api.OK, e == api.OK && r.Link == "")
		_, got = message.Answers("here", "S2024", 0, []api.Request{r}, []message.Result{refused(r.Name)})
		is(t, "Answers", got, e)
		_, got = message.Granted([]api.Request{r}, []message.Result{granted(r.Name, r.Minute)})
		is(t, "Granted", got, e)
	}
}

// P1: no lists of any length make a function panic.
func TestOddLists(t *testing.T) {
	for _, n := range []int{0, 1, 63, 64, 65, 66, 1000, 100000} {
		requests, results := make([]api.Request, n), make([]message.Result, n)
		m := asks(make([]message.Line, n)...)
		want := api.OK
		switch {
		case n > 64:
			want = api.ErrMany
		case n > 0:
			want = api.ErrName
		}
		_, e := message.Pairs(requests)
		is(t, "Pairs", e, want)
		_, e = message.Changed(nil, requests)
		is(t, "Changed", e, want)
		_, e = message.Answers("here", "S2024", 0, requests, results)
		is(t, "Answers", e, want)
		_, e = message.Answers("here", "S2024", 0, nil, results)
		is(t, "Answers", e, want)
		_, e = message.Granted(requests, results)
		is(t, "Granted", e, want)
		if want == api.ErrName {
			want = api.ErrKind
		}
		is(t, "CheckMessage", message.CheckMessage(m), want)
		_, e = message.PrintMessage(m)
		is(t, "PrintMessage", e, want)
		_, _, e = message.Requests([]message.Message{m})
		is(t, "Requests", e, want)
		_, _, e = message.Requests(make([]message.Message, n))
		is(t, "Requests", e, want)
		m.Kind = "ANS"
		_, e = message.Results(m)
		is(t, "Results", e, want)
	}
}

// Rules: arguments are not modified, nor is what stands behind a list.
func TestArgumentsStay(t *testing.T) {
	requests := append(series(3), with(named("q3"), linked("A", "q4")), with(named("q4"), linked("D", "q3")))
	results := []message.Result{refused("q0"), granted("q1", 5), granted("q2", 605), refused("q3"), granted("q4", 1)}
	after := []api.Request{with(named("q9")), with(named("q1"), at(7))}
	m := asks(line("N", q()), line("C", q()), line("R", with(at(1))), line("H", with(named("z"))), line("D", with(at(1))), line("N", with(named("y"))))
	answer := answersOf(line("K", q()), line("O", with(named("b"))))
	requestsBefore, resultsBefore, afterBefore := slices.Clone(requests), slices.Clone(results), slices.Clone(after)
	linesBefore, answerBefore := slices.Clone(m.Lines), slices.Clone(answer.Lines)
	messages := []message.Message{m, on(9000), on(9001, line("N", with(named("x"))))}

	message.Pairs(requests)
	message.Changed(requests, after)
	message.Changed(after[:1], requests)
	message.Answers("here", "S2024", 0, requests, results)
	message.Answers("here", "S2024", 0, requests[:2], results[:2])
	message.Granted(requests, results)
	message.Granted(requests[:1], results[:1])
	message.CheckMessage(m)
	message.PrintMessage(m)
	message.Requests(messages)
	message.Requests(messages[:1])
	message.Results(answer)

	isList(t, "requests", requests, requestsBefore)
	isList(t, "results", results, resultsBefore)
	isList(t, "requests after", after, afterBefore)
	isList(t, "lines", m.Lines, linesBefore)
	isList(t, "lines of the answer", answer.Lines, answerBefore)
	isMessage(t, "the first message", messages[0], m)
	isMessage(t, "the second message", messages[1], on(9000))
	isMessage(t, "the third message", messages[2], on(9001, line("N", with(named("x")))))
}

// isFresh checks that a result does not change with another one of the same call.
func isFresh[T comparable](t *testing.T, what string, call func() []T) {
	t.Helper()
	a, b := call(), call()
	before := slices.Clone(b)
	is(t, what+" has elements", len(a) > 0, true)
	var zero T
	for i := range a {
		a[i] = zero
	}
	_ = append(a, zero)
	isList(t, what+" after another result was changed", b, before)
	isList(t, what+" called again", call(), before)
}

// Rules: results share no memory with arguments, or with each other.
func TestResultsShareNothing(t *testing.T) {
	a, d := with(linked("A", "q2")), with(named("q2"), linked("D", "q1"))
	requests, results := []api.Request{a, d}, []message.Result{granted("q1", 1), granted("q2", 605)}
	messages := []message.Message{asks(line("N", a), line("H", d))}
	answer := answersOf(line("K", a), line("O", d))
	isFresh(t, "Pairs", func() [][2]int { l, _ := message.Pairs(requests); return l })
	isFresh(t, "Changed", func() []message.Line { l, _ := message.Changed(requests, nil); return l })
	isFresh(t, "Requests", func() []message.Entry { l, _, _ := message.Requests(messages); return l })
	isFresh(t, "Granted", func() []api.Request { l, _ := message.Granted(requests, results); return l })
	isFresh(t, "Results", func() []message.Result { l, _ := message.Results(answer); return l })
	isFresh(t, "Answers", func() []message.Line {
		m, _ := message.Answers("here", "S2024", 0, requests, results)
		return m.Lines
	})
	isFresh(t, "ParseMessage", func() []message.Line { m, _, _ := message.ParseMessage(textOf(answer)); return m.Lines })
}
