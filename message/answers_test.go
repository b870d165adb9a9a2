package message_test

import (
	"fmt"
	"testing"

	"turnround/api"
	"turnround/message"
)

func granted(name string, minute int) message.Result {
	return message.Result{Name: name, Granted: true, Minute: minute}
}

func refused(name string) message.Result { return message.Result{Name: name} }

// P2.6: Answers returns the line for each result.
func TestAnswers(t *testing.T) {
	for _, x := range []struct {
		what     string
		requests []api.Request
		results  []message.Result
		want     []message.Line
	}{
		{"nothing", nil, nil, nil},
		{"at its minute", []api.Request{q()}, []message.Result{granted("q1", 605)}, []message.Line{line("K", q())}},
		{"at another minute", []api.Request{q()}, []message.Result{granted("q1", 615)}, []message.Line{line("O", with(at(615)))}},
		{"at the first minute", []api.Request{q()}, []message.Result{granted("q1", 0)}, []message.Line{line("O", with(at(0)))}},
		{"at the first minute, as requested", []api.Request{with(at(0))}, []message.Result{granted("q1", 0)}, []message.Line{line("K", with(at(0)))}},
		{"at the last minute", []api.Request{q()}, []message.Result{granted("q1", 1439)}, []message.Line{line("O", with(at(1439)))}},
		{"refused", []api.Request{q()}, []message.Result{refused("q1")}, []message.Line{line("U", q())}},
		{"refused at the first minute", []api.Request{with(at(0))}, []message.Result{refused("q1")}, []message.Line{line("U", with(at(0)))}},
		{"several, with a link to nowhere", []api.Request{with(linked("D", "x")), with(named("b")), with(named("c"))}, []message.Result{refused("q1"), granted("b", 604), granted("c", 605)},
			[]message.Line{line("U", with(linked("D", "x"))), line("O", with(named("b"), at(604))), line("K", with(named("c")))}},
	} {
		got, e := message.Answers("here", "S2024", 8801, x.requests, x.results)
		is(t, "Answers: "+x.what, e, api.OK)
		isMessage(t, "Answers: "+x.what, got, message.Message{Kind: "ANS", Airport: "here", Season: "S2024", Day: 8801, Lines: x.want})
		is(t, "error of the answer: "+x.what, message.CheckMessage(got), api.OK)
	}
	var results []message.Result
	for i, r := range series(64) {
		results = append(results, granted(r.Name, i))
	}
	got, e := message.Answers("a", "W0000", 99999, series(64), results)
	is(t, "Answers to 64", e, api.OK)
	is(t, "day", got.Day, 99999)
	is(t, "airport", got.Airport, "a")
	is(t, "season", got.Season, "W0000")
	for i, l := range got.Lines {
		is(t, fmt.Sprint("line ", i), l, line("O", with(named(fmt.Sprint("q", i)), at(i))))
	}
}

// badResults is a list of results with an error.
type badResults struct {
	what    string
	results []message.Result
	e       api.Errno
}

// someBadResults has lists of results with each error, in their order.
func someBadResults() []badResults {
	var many []message.Result
	for i := range 65 {
		many = append(many, refused(fmt.Sprint("q", i)))
	}
	all := []badResults{
		{"65 results", many, api.ErrMany},
		{"65 empty results", make([]message.Result, 65), api.ErrMany},
		{"twice", []message.Result{refused("q1"), granted("q1", 5)}, api.ErrTwice},
		{"twice among others", []message.Result{refused("q1"), refused("q2"), refused("q2")}, api.ErrTwice},
		{"twice, and an error of its own", []message.Result{refused("q1"), granted("q1", 1440)}, api.ErrRange},
		{"twice before an error", []message.Result{refused("q1"), refused("q1"), refused("")}, api.ErrTwice},
		{"an error before twice", []message.Result{refused("q1"), refused(""), refused("q1")}, api.ErrName},
		{"a minute without a grant", []message.Result{{Name: "q1", Minute: 1}}, api.ErrRange},
		{"the requested minute without a grant", []message.Result{{Name: "q1", Minute: 605}}, api.ErrRange},
		{"the last minute without a grant", []message.Result{{Name: "q1", Minute: 1439}}, api.ErrRange},
		{"no name, and no minute", []message.Result{granted("1", -1)}, api.ErrName},
		{"no name without a grant, and a minute", []message.Result{{Minute: 5}}, api.ErrName},
	}
	for _, s := range append([]string{""}, noNames...) {
		all = append(all,
			badResults{"the name " + s, []message.Result{granted("q1", 605), granted(s, 5)}, api.ErrName},
			badResults{"the name " + s, []message.Result{refused("q1"), refused(s)}, api.ErrName},
		)
	}
	for _, n := range noMinutes {
		all = append(all,
			badResults{fmt.Sprint("granted at ", n), []message.Result{granted("q1", n)}, api.ErrRange},
			badResults{fmt.Sprint("refused at ", n), []message.Result{{Name: "q1", Minute: n}}, api.ErrRange},
		)
	}
	return all
}

// refuses checks that Answers and Granted return an error, and nothing beside it.
func refuses(t *testing.T, what string, requests []api.Request, results []message.Result, e api.Errno) {
	t.Helper()
	m, got := message.Answers("here", "S2024", 8801, requests, results)
	is(t, "Answers: "+what, got, e)
	isMessage(t, "Answers: "+what, m, message.Message{})
	l, got := message.Granted(requests, results)
	is(t, "Granted: "+what, got, e)
	isList(t, "Granted: "+what, l, nil)
}

// P2.6: each error of Answers and Granted: of the requests, of the results, then of both together.
func TestBadAnswers(t *testing.T) {
	for _, x := range badLists() {
		refuses(t, x.what, x.requests, nil, x.e)
		refuses(t, x.what, x.requests, make([]message.Result, len(x.requests)), x.e)
		refuses(t, x.what, x.requests, []message.Result{granted("q1", 605)}, x.e)
		refuses(t, x.what, x.requests, make([]message.Result, 65), x.e)
	}
	for _, x := range someBadResults() {
		for n := range 4 {
			refuses(t, fmt.Sprint(x.what, " for ", n), series(n), x.results, x.e)
		}
	}
	two := []api.Request{q(), with(named("q2"))}
	for _, x := range []struct {
		what    string
		results []message.Result
		e       api.Errno
	}{
		{"no results", nil, api.ErrShape},
		{"too few results", []message.Result{granted("q1", 605)}, api.ErrShape},
		{"too few results of other names", []message.Result{granted("q3", 605)}, api.ErrShape},
		{"too many results", []message.Result{granted("q1", 605), refused("q2"), refused("q3")}, api.ErrShape},
		{"another name", []message.Result{refused("q1"), refused("q3")}, api.ErrUnknown},
		{"another first name", []message.Result{refused("q0"), refused("q2")}, api.ErrUnknown},
		{"exchanged names", []message.Result{refused("q2"), refused("q1")}, api.ErrUnknown},
	} {
		refuses(t, x.what, two, x.results, x.e)
	}
	refuses(t, "results of no requests", nil, []message.Result{refused("q1")}, api.ErrShape)
}

// P2.6: the errors of the header of an answer come first, in their order.
func TestBadHeadersOfAnswers(t *testing.T) {
	twice := []api.Request{q(), q()}
	answers := func(what, airport, season string, day int, e api.Errno) {
		t.Helper()
		for _, requests := range [][]api.Request{nil, {q()}, twice} {
			m, got := message.Answers(airport, season, day, requests, nil)
			is(t, "Answers with "+what, got, e)
			isMessage(t, "Answers with "+what, m, message.Message{})
		}
	}
	for _, s := range append([]string{""}, noNames...) {
		answers("the airport "+s, s, "S2024", 0, api.ErrName)
		answers("the airport "+s, s, "", -1, api.ErrName)
	}
	for _, s := range noSeasons {
		answers("the season "+s, "here", s, 0, api.ErrForm)
		answers("the season "+s, "here", s, -1, api.ErrForm)
	}
	for _, day := range noDays {
		answers(fmt.Sprint("the day ", day), "here", "S2024", day, api.ErrRange)
	}
}

// P2.6: Results returns what each line says.
func TestResults(t *testing.T) {
	for _, x := range []struct {
		what string
		m    message.Message
		want []message.Result
	}{
		{"nothing", answersOf(), nil},
		{"K", answersOf(line("K", q())), []message.Result{granted("q1", 605)}},
		{"O", answersOf(line("O", with(at(615)))), []message.Result{granted("q1", 615)}},
		{"U", answersOf(line("U", q())), []message.Result{refused("q1")}},
		{"X", answersOf(line("X", q())), []message.Result{refused("q1")}},
		{"at the first minute", answersOf(line("K", with(at(0)))), []message.Result{granted("q1", 0)}},
		{"several", answersOf(line("X", with(named("c"))), line("O", with(named("b"), at(0))), line("U", with(named("a"))), line("K", q())),
			[]message.Result{refused("c"), granted("b", 0), refused("a"), granted("q1", 605)}},
	} {
		got, e := message.Results(x.m)
		is(t, "Results: "+x.what, e, api.OK)
		isList(t, "Results: "+x.what, got, x.want)
	}
	got, e := message.Results(answersOf(lines("U", series(64))...))
	is(t, "Results of 64", e, api.OK)
	is(t, "Results of 64", len(got), 64)
}

// P2.6: each error of Results: of the message, then of its kind, then of its names.
func TestBadResults(t *testing.T) {
	bad := func(what string, m message.Message, e api.Errno) {
		t.Helper()
		got, gotE := message.Results(m)
		is(t, "Results: "+what, gotE, e)
		isList(t, "Results: "+what, got, nil)
	}
	for _, x := range badLines {
		bad(x.what, asks(x.lines...), x.e)
	}
	for _, x := range badRequests() {
		bad(x.what, answersOf(line("K", q()), line("K", q()), line("U", x.r)), x.e)
	}
	for _, x := range []struct {
		what string
		m    message.Message
		e    api.Errno
	}{
		{"no kind", message.Message{}, api.ErrKind},
		{"no airport", changed(answersOf(), func(m *message.Message) { m.Airport = "" }), api.ErrName},
		{"no season", changed(answersOf(), func(m *message.Message) { m.Season = "S" }), api.ErrForm},
		{"no day", changed(answersOf(), func(m *message.Message) { m.Day = -1 }), api.ErrRange},
		{"65 lines", answersOf(lines("K", series(65))...), api.ErrMany},
		{"a message of requests", asks(line("N", q())), api.ErrKind},
		{"a message of requests with a name twice", asks(line("N", q()), line("N", q())), api.ErrKind},
		{"an empty message of requests", asks(), api.ErrKind},
		{"a line of requests", answersOf(line("N", q())), api.ErrRule},
		{"a name twice", answersOf(line("K", q()), line("U", q())), api.ErrTwice},
		{"a name of two carriers", answersOf(line("K", q()), line("O", with(named("b"))), line("X", with(of("cd"), at(1)))), api.ErrTwice},
	} {
		bad(x.what, x.m, x.e)
	}
}

// P2.6: Granted returns the requests that are granted, at their minutes.
func TestGranted(t *testing.T) {
	b, c := with(named("b"), linked("D", "x")), with(named("c"))
	for _, x := range []struct {
		what     string
		requests []api.Request
		results  []message.Result
		want     []api.Request
	}{
		{"nothing", nil, nil, nil},
		{"at its minute", []api.Request{q()}, []message.Result{granted("q1", 605)}, []api.Request{q()}},
		{"at another minute", []api.Request{q()}, []message.Result{granted("q1", 615)}, []api.Request{with(at(615))}},
		{"at the first minute", []api.Request{q()}, []message.Result{granted("q1", 0)}, []api.Request{with(at(0))}},
		{"refused", []api.Request{q()}, []message.Result{refused("q1")}, nil},
		{"all", []api.Request{q(), b, c}, []message.Result{granted("q1", 1), granted("b", 605), granted("c", 3)}, []api.Request{with(at(1)), b, with(named("c"), at(3))}},
		{"the second one is refused", []api.Request{q(), b, c}, []message.Result{granted("q1", 1), refused("b"), granted("c", 3)}, []api.Request{with(at(1)), with(named("c"), at(3))}},
		{"the second one alone", []api.Request{q(), b, c}, []message.Result{refused("q1"), granted("b", 2), refused("c")}, []api.Request{with(named("b"), linked("D", "x"), at(2))}},
	} {
		got, e := message.Granted(x.requests, x.results)
		is(t, "Granted: "+x.what, e, api.OK)
		isList(t, "Granted: "+x.what, got, x.want)
	}
}
