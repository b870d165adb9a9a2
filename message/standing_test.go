package message_test

import (
	"fmt"
	"slices"
	"testing"

	"turnround/api"
	"turnround/message"
)

func entry(r api.Request, day int) message.Entry { return message.Entry{Request: r, Day: day} }

func historic(r api.Request, day int) message.Entry {
	return message.Entry{Request: r, Historic: true, Day: day}
}

// on returns a message of requests on a day.
func on(day int, lines ...message.Line) message.Message {
	m := asks(lines...)
	m.Day = day
	return m
}

// P2.5: Requests returns the entries that messages leave, in the order in which they came.
func TestRequests(t *testing.T) {
	a, b, c := with(named("a")), with(named("b")), with(named("c"))
	later := with(named("b"), at(615), linked("D", "x"), func(r *api.Request) { r.Terminal = "" })
	for _, x := range []struct {
		what     string
		messages []message.Message
		want     []message.Entry
	}{
		{"no messages", nil, nil},
		{"an empty message", []message.Message{on(1)}, nil},
		{"N and H", []message.Message{on(1, line("N", a), line("H", b)), on(2, line("N", c))}, []message.Entry{entry(a, 1), historic(b, 1), entry(c, 2)}},
		{"D in the middle", []message.Message{on(1, line("N", a), line("N", b), line("N", c)), on(2, line("D", b))}, []message.Entry{entry(a, 1), entry(c, 1)}},
		{"D at the beginning", []message.Message{on(1, line("N", a), line("N", b), line("N", c), line("D", a))}, []message.Entry{entry(b, 1), entry(c, 1)}},
		{"D at the end", []message.Message{on(1, line("N", a), line("N", b), line("N", c)), on(2, line("D", c))}, []message.Entry{entry(a, 1), entry(b, 1)}},
		{"D, then N again", []message.Message{on(1, line("H", a), line("N", b)), on(2, line("D", a), line("N", a))}, []message.Entry{entry(b, 1), entry(a, 2)}},
		{"D of all", []message.Message{on(1, line("H", a), line("N", b), line("D", b), line("D", a))}, nil},
		{"C and R at the same place", []message.Message{on(1, line("N", a), line("N", b), line("N", c)), on(3, line("C", b), line("R", later))}, []message.Entry{entry(a, 1), entry(later, 3), entry(c, 1)}},
		{"C and R of a historic one", []message.Message{on(1, line("N", a), line("H", b)), on(3, line("C", b), line("R", later))}, []message.Entry{entry(a, 1), historic(later, 3)}},
		{"C and R in one message with N", []message.Message{on(1, line("N", b), line("C", b), line("R", later))}, []message.Entry{entry(later, 1)}},
		{"C and R that change nothing but the day", []message.Message{on(1, line("N", b)), on(9, line("C", b), line("R", b))}, []message.Entry{entry(b, 9)}},
		{"C and R twice", []message.Message{on(1, line("N", b), line("C", b), line("R", later), line("C", later), line("R", b), line("D", b), line("H", later))}, []message.Entry{historic(later, 1)}},
		{"another carrier after D", []message.Message{on(1, line("N", b), line("D", b), line("N", with(named("b"), of("cd"))))}, []message.Entry{entry(with(named("b"), of("cd")), 1)}},
		{"on one day", []message.Message{on(5, line("N", a)), on(5, line("N", b)), on(5)}, []message.Entry{entry(a, 5), entry(b, 5)}},
		{"64 entries", []message.Message{on(0, lines("N", series(64))...)}, entries(series(64), 0)},
		{"64 entries, one of them again", []message.Message{on(0, lines("N", series(64))...), on(1, line("D", series(64)[0]), line("N", series(1)[0]))}, append(entries(series(64)[1:], 0), entry(series(1)[0], 1))},
	} {
		got, at, e := message.Requests(x.messages)
		is(t, "Requests: "+x.what, e, api.OK)
		is(t, "index of Requests: "+x.what, at, 0)
		isList(t, "Requests: "+x.what, got, x.want)
	}
	many := make([]message.Message, 64)
	for i := range many {
		many[i] = on(i, line("N", series(64)[i]))
	}
	got, _, e := message.Requests(many)
	is(t, "64 messages", e, api.OK)
	is(t, "64 messages", len(got), 64)
}

func entries(requests []api.Request, day int) []message.Entry {
	var all []message.Entry
	for _, r := range requests {
		all = append(all, entry(r, day))
	}
	return all
}

// changed returns a message with a change.
func changed(m message.Message, change func(*message.Message)) message.Message {
	change(&m)
	return m
}

// P2.5: each error of Requests: the first wrong message decides, with its first error.
func TestBadMessages(t *testing.T) {
	a, b := with(named("a")), with(named("b"))
	first := on(5, line("N", a))
	answer := changed(first, func(m *message.Message) { m.Kind, m.Lines = "ANS", lines("K", series(2)) })
	elsewhere := changed(on(6), func(m *message.Message) { m.Airport = "there" })
	winter := changed(on(6), func(m *message.Message) { m.Season = "W2024" })
	for _, x := range []struct {
		what     string
		messages []message.Message
		at       int
		e        api.Errno
	}{
		{"65 messages", make([]message.Message, 65), 0, api.ErrMany},
		{"65 good messages", slices.Repeat([]message.Message{on(1)}, 65), 0, api.ErrMany},
		{"no kind", []message.Message{first, {}}, 1, api.ErrKind},
		{"no season", []message.Message{first, changed(on(6), func(m *message.Message) { m.Season = "" })}, 1, api.ErrForm},
		{"an answer", []message.Message{answer}, 0, api.ErrKind},
		{"an empty answer", []message.Message{first, answersOf()}, 1, api.ErrKind},
		{"an answer with an error", []message.Message{first, changed(answer, func(m *message.Message) { m.Lines = lines("K", []api.Request{with(at(-1))}) })}, 1, api.ErrRange},
		{"an answer with another airport", []message.Message{first, changed(elsewhere, func(m *message.Message) { m.Kind = "ANS" })}, 1, api.ErrKind},
		{"another airport", []message.Message{first, on(6), elsewhere}, 2, api.ErrConflict},
		{"another season", []message.Message{first, winter}, 1, api.ErrConflict},
		{"another airport and an earlier day", []message.Message{first, changed(elsewhere, func(m *message.Message) { m.Day = 0 })}, 1, api.ErrConflict},
		{"an earlier day", []message.Message{first, on(6), on(5)}, 2, api.ErrOrder},
		{"an earlier day and a wrong line", []message.Message{first, on(4, line("N", a))}, 1, api.ErrOrder},
		{"another season and a line without an action", []message.Message{first, changed(winter, func(m *message.Message) { m.Lines = []message.Line{{}} })}, 1, api.ErrKind},
		{"N twice in a message", []message.Message{on(5, line("N", a), line("N", a))}, 0, api.ErrTwice},
		{"N and H", []message.Message{first, on(5, line("N", b), line("H", a))}, 1, api.ErrTwice},
		{"H, N of another carrier", []message.Message{on(5, line("H", a)), on(5, line("N", with(named("a"), of("cd"), at(1))))}, 1, api.ErrTwice},
		{"N at the new minute", []message.Message{first, on(6, line("C", a), line("R", with(named("a"), at(1))), line("N", with(named("a"), at(1))))}, 1, api.ErrTwice},
		{"D of nothing", []message.Message{on(5, line("D", a))}, 0, api.ErrUnknown},
		{"C of nothing", []message.Message{first, on(5, line("C", b), line("R", b))}, 1, api.ErrUnknown},
		{"D twice", []message.Message{first, on(5, line("D", a), line("D", a))}, 1, api.ErrUnknown},
		{"D before N", []message.Message{on(5, line("D", a), line("N", a))}, 0, api.ErrUnknown},
		{"unknown, with 64 entries", []message.Message{on(0, lines("N", series(64))...), on(0, line("D", a))}, 1, api.ErrUnknown},
		{"twice, with 64 entries", []message.Message{on(0, lines("N", series(64))...), on(0, line("N", series(64)[63]))}, 1, api.ErrTwice},
		{"65 entries", []message.Message{on(0, lines("N", series(64))...), on(0), on(0, line("N", a))}, 2, api.ErrMany},
		{"65 entries with H", []message.Message{on(0, lines("N", series(64))...), on(0, line("H", a))}, 1, api.ErrMany},
		{"the first wrong line decides", []message.Message{first, on(5, line("D", b), line("N", a))}, 1, api.ErrUnknown},
		{"the first wrong line decides", []message.Message{first, on(5, line("N", a), line("D", b))}, 1, api.ErrTwice},
		{"the first wrong message decides", []message.Message{first, first, {}}, 1, api.ErrTwice},
		{"the first wrong message decides", []message.Message{first, {}, first}, 1, api.ErrKind},
	} {
		got, at, e := message.Requests(x.messages)
		is(t, "Requests: "+x.what, e, x.e)
		is(t, "index of Requests: "+x.what, at, x.at)
		isList(t, "Requests: "+x.what, got, nil)
	}
	for _, x := range badLines {
		_, at, e := message.Requests([]message.Message{first, on(5, x.lines...)})
		is(t, "Requests: "+x.what, e, x.e)
		is(t, "index of Requests: "+x.what, at, 1)
	}
}

// differences has for each field of a request another value of it.
var differences = []func(*api.Request){
	of("cd"),
	linked("D", ""),
	linked("A", "x"),
	func(r *api.Request) { r.Terminal = "" },
	func(r *api.Request) { r.Partner = "near" },
	func(r *api.Request) { r.Period.From++ },
	func(r *api.Request) { r.Period.To-- },
	func(r *api.Request) { r.Period.Days ^= 2 },
	at(606),
	func(r *api.Request) { r.Seats++ },
	func(r *api.Request) { r.Size++ },
	func(r *api.Request) { r.Noise++ },
}

// P2.5: C and D have the whole request as it is, with its carrier.
func TestConflicts(t *testing.T) {
	for i, d := range differences {
		other := with(d)
		for _, l := range [][]message.Line{{line("D", other)}, {line("C", other), line("R", other)}, {line("C", other), line("R", with(of(other.Carrier)))}} {
			got, at, e := message.Requests([]message.Message{on(1, line("N", q())), on(1, l...)})
			is(t, fmt.Sprint("Requests with the difference ", i), e, api.ErrConflict)
			is(t, fmt.Sprint("index of Requests with the difference ", i), at, 1)
			isList(t, fmt.Sprint("Requests with the difference ", i), got, nil)
		}
		if i == 0 {
			// A change keeps the carrier.
			continue
		}
		got, _, e := message.Requests([]message.Message{on(1, line("N", q()), line("C", q()), line("R", other))})
		is(t, fmt.Sprint("Requests to the difference ", i), e, api.OK)
		isList(t, fmt.Sprint("Requests to the difference ", i), got, entries([]api.Request{other}, 1))
		_, _, e = message.Requests([]message.Message{on(1, line("N", q()), line("C", q()), line("R", other), line("D", q()))})
		is(t, fmt.Sprint("Requests, as it was before the difference ", i), e, api.ErrConflict)
	}
}

// P2.5: Changed returns what is withdrawn, then what is changed, then what is new.
func TestChanged(t *testing.T) {
	a, b, c, d := with(named("a")), with(named("b")), with(named("c")), with(named("d"))
	later := func(r api.Request) api.Request { r.Minute++; return r }
	cd := func(r api.Request) api.Request { r.Carrier = "cd"; return r }
	for _, x := range []struct {
		what          string
		before, after []api.Request
		want          []message.Line
	}{
		{"nothing", nil, nil, nil},
		{"the same", []api.Request{a, b}, []api.Request{a, b}, nil},
		{"in another order", []api.Request{a, b, c}, []api.Request{c, a, b}, nil},
		{"all are new", nil, []api.Request{b, a}, []message.Line{line("N", b), line("N", a)}},
		{"none is left", []api.Request{b, a}, nil, []message.Line{line("D", b), line("D", a)}},
		{"changes", []api.Request{b, a}, []api.Request{later(a), later(b)}, []message.Line{line("C", b), line("R", later(b)), line("C", a), line("R", later(a))}},
		{"one of each", []api.Request{a, b, c}, []api.Request{d, later(a), c}, []message.Line{line("D", b), line("C", a), line("R", later(a)), line("N", d)}},
		{"several of each", []api.Request{a, b, c, with(named("e"))}, []api.Request{d, later(c), later(a), with(named("f"))},
			[]message.Line{line("D", b), line("D", with(named("e"))), line("C", a), line("R", later(a)), line("C", c), line("R", later(c)), line("N", d), line("N", with(named("f")))}},
		{"another carrier", []api.Request{a, b}, []api.Request{cd(a), b}, []message.Line{line("D", a), line("N", cd(a))}},
		{"exchanged carriers", []api.Request{a, cd(b)}, []api.Request{cd(a), b}, []message.Line{line("D", a), line("D", cd(b)), line("N", cd(a)), line("N", b)}},
		{"exchanged names and carriers", []api.Request{with(named("ab"), of("cd"))}, []api.Request{with(named("cd"), of("ab"))}, []message.Line{line("D", with(named("ab"), of("cd"))), line("N", with(named("cd"), of("ab")))}},
		{"64 new ones", nil, series(64), lines("N", series(64))},
		{"64 withdrawn ones", series(64), nil, lines("D", series(64))},
	} {
		got, e := message.Changed(x.before, x.after)
		is(t, "Changed: "+x.what, e, api.OK)
		isList(t, "Changed: "+x.what, got, x.want)
	}
	for i, d := range differences[1:] {
		got, _ := message.Changed([]api.Request{q()}, []api.Request{with(d)})
		isList(t, fmt.Sprint("Changed with the difference ", i+1), got, []message.Line{line("C", q()), line("R", with(d))})
	}
}

// P2.5: each error of Changed.
func TestBadChanges(t *testing.T) {
	for _, x := range badLists() {
		for _, other := range [][]api.Request{nil, series(64), {q()}} {
			got, e := message.Changed(x.requests, other)
			is(t, "Changed from "+x.what, e, x.e)
			isList(t, "Changed from "+x.what, got, nil)
			got, e = message.Changed(other, x.requests)
			is(t, "Changed to "+x.what, e, x.e)
			isList(t, "Changed to "+x.what, got, nil)
		}
		_, e := message.Changed(x.requests, []api.Request{with(linked("", ""))})
		is(t, "Changed from "+x.what+" to an error", e, x.e)
	}
	_, e := message.Changed([]api.Request{q(), q()}, make([]api.Request, 65))
	is(t, "Changed with errors on both sides", e, api.ErrTwice)
	all := series(64)
	later := series(64)
	for i := range later {
		later[i].Minute++
	}
	for _, x := range []struct {
		what          string
		before, after []api.Request
		n             int
		e             api.Errno
	}{
		{"32 changes", all[:32], later[:32], 64, api.OK},
		{"33 changes", all[:33], later[:33], 0, api.ErrMany},
		{"64 changes", all, later, 0, api.ErrMany},
		{"32 changes and a new one", all[:32], append(slices.Clone(later[:32]), all[40]), 0, api.ErrMany},
		{"32 changes and a withdrawn one", append([]api.Request{all[40]}, all[:32]...), later[:32], 0, api.ErrMany},
		{"31 changes, a new one and a withdrawn one", append([]api.Request{all[40]}, all[:31]...), append([]api.Request{all[41]}, later[:31]...), 64, api.OK},
		{"32 withdrawn ones and 32 new ones", all[:32], all[32:], 64, api.OK},
		{"33 withdrawn ones and 32 new ones", append([]api.Request{with(named("x")), with(named("y"))}, all[:31]...), all[32:], 0, api.ErrMany},
	} {
		got, e := message.Changed(x.before, x.after)
		is(t, "Changed: "+x.what, e, x.e)
		is(t, "number of lines of Changed: "+x.what, len(got), x.n)
	}
}
