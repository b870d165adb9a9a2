package message_test

import (
	"fmt"
	"slices"
	"strings"
	"testing"

	"turnround/api"
	"turnround/message"
)

// someRequest returns a request without error, with a name.
func someRequest(x *noise, name string) api.Request {
	from := x.next(99000)
	return with(named(name), func(r *api.Request) {
		r.Carrier = []string{"ab", "cd", "e_9"}[x.next(3)]
		r.Kind = []string{"A", "D"}[x.next(2)]
		r.Terminal = []string{"", "t1", "T_2"}[x.next(3)]
		r.Partner = names[x.next(len(names))]
		r.Link = []string{"", "", "other"}[x.next(3)]
		r.Period = api.Period{From: from, To: from + x.next(401), Days: 1 + x.next(127)}
		r.Minute = x.next(1440)
		r.Seats = x.next(1000)
		r.Size = 1 + x.next(9)
		r.Noise = x.next(100)
	})
}

// someRequests returns n requests with the names r0, r1, ..
func someRequests(x *noise, n int) []api.Request {
	var all []api.Request
	for i := range n {
		all = append(all, someRequest(x, fmt.Sprint("r", i)))
	}
	return all
}

// P2.7: what is printed is parsed again.
func TestPrintedIsParsed(t *testing.T) {
	x := noise(1)
	for n := range 300 {
		var l []message.Line
		m := asks()
		m.Day = x.next(100000)
		if n%2 == 0 {
			m = answersOf()
		}
		for _, r := range someRequests(&x, x.next(65)) {
			switch {
			case n%2 == 0:
				l = append(l, line(actionsOfAnswers[x.next(4)], r))
			case x.next(3) == 0 && len(l) < 60:
				l = append(l, line("C", r), line("R", with(named(r.Name), of(r.Carrier))))
			default:
				l = append(l, line([]string{"N", "H", "D"}[x.next(3)], r))
			}
		}
		m.Lines = l[:min(len(l), 60)]
		if k := len(m.Lines); k > 0 && m.Lines[k-1].Action == "C" {
			m.Lines = m.Lines[:k-1]
		}
		s, e := message.PrintMessage(m)
		is(t, "PrintMessage", e, api.OK)
		back, at, e := message.ParseMessage(s)
		isMessage(t, "ParseMessage", back, m)
		is(t, "index", at, 0)
		is(t, "error", e, api.OK)
		for _, l := range m.Lines {
			s, _ := message.PrintLine(l)
			back, at, e := message.ParseLine(s)
			is(t, "ParseLine "+s, back, l)
			is(t, "ParseLine "+s, at, 0)
			is(t, "ParseLine "+s, e, api.OK)
		}
	}
}

// P2.7: what is parsed without an error is printed as it was.
func TestParsedIsPrinted(t *testing.T) {
	x := noise(2)
	pieces := []string{"0", "1", "9", "-", " ", "", "N", "C", "R", "K", "D", "A", "q1", "ab", "\n", "00", "END", "SLOTS", "S", "W", "_", "x"}
	whole := textOf(asks(line("N", with(linked("A", "q2"))), line("C", q()), line("R", with(at(5)))))
	lineOnly, parsed := line24, 0
	for range 30000 {
		cut, width := x.next(len(whole)), x.next(3)
		s := whole[:cut] + pieces[x.next(len(pieces))] + whole[min(cut+width, len(whole)):]
		if m, _, e := message.ParseMessage(s); e == api.OK {
			parsed++
			back, e := message.PrintMessage(m)
			is(t, "PrintMessage", back, s)
			is(t, "PrintMessage", e, api.OK)
		}
		cut = x.next(len(lineOnly))
		s = lineOnly[:cut] + pieces[x.next(len(pieces))] + lineOnly[min(cut+width, len(lineOnly)):]
		if l, _, e := message.ParseLine(s); e == api.OK {
			parsed++
			back, e := message.PrintLine(l)
			is(t, "PrintLine", back, s)
			is(t, "PrintLine", e, api.OK)
		}
	}
	is(t, "some are parsed", parsed > 500, true)
}

// P2.7: a message that is cut off is never parsed.
func TestCutMessages(t *testing.T) {
	for _, m := range goodMessages() {
		s := textOf(m)
		// Each byte of a short message, and some of a long one.
		for n := 0; n < len(s); n += 1 + len(s)/2000 {
			back, at, e := message.ParseMessage(s[:n])
			if e != api.ErrTorn && e != api.ErrSyntax || at != strings.Count(s[:n], "\n") {
				t.Fatalf("ParseMessage of %d bytes: index %d, error %d", n, at, e)
			}
			isMessage(t, "ParseMessage", back, message.Message{})
		}
	}
}

// modelOf is the definition of what messages leave, in lists of names: the entries, and whether they all have no error.
func modelOf(messages []message.Message) ([]message.Entry, int, bool) {
	var order []string
	known := map[string]message.Entry{}
	for i, m := range messages {
		for _, l := range m.Lines {
			name := l.Request.Name
			old, found := known[name]
			switch l.Action {
			case "N", "H":
				if found || len(order) == 64 {
					return nil, i, false
				}
				order = append(order, name)
				known[name] = message.Entry{Request: l.Request, Historic: l.Action == "H", Day: m.Day}
			case "C", "D":
				if !found || old.Request != l.Request {
					return nil, i, false
				}
				if l.Action == "D" {
					order = slices.DeleteFunc(order, func(s string) bool { return s == name })
					delete(known, name)
				}
			case "R":
				known[name] = message.Entry{Request: l.Request, Historic: old.Historic, Day: m.Day}
			}
		}
	}
	var all []message.Entry
	for _, name := range order {
		all = append(all, known[name])
	}
	return all, 0, true
}

// P2.5: messages leave what the definition says.
func TestRequestsByDefinition(t *testing.T) {
	good := 0
	for seed := range 400 {
		x := noise(seed + 10)
		var messages []message.Message
		day := 0
		for range 1 + x.next(6) {
			day += x.next(3)
			m := on(day)
			for range x.next(20) {
				// What stands is known from the model, so that most lines are right.
				left, _, _ := modelOf(append(slices.Clone(messages), m))
				r := someRequest(&x, fmt.Sprint("r", x.next(80)))
				if i := x.next(len(left) + 3); i < len(left) {
					r = left[i].Request
				}
				switch k := x.next(400); {
				case k < 3:
					m.Lines = append(m.Lines, line("D", someRequest(&x, r.Name)))
				case k < 6:
					m.Lines = append(m.Lines, line("N", r))
				case k < 60:
					m.Lines = append(m.Lines, line("D", r))
				case k < 130:
					later := someRequest(&x, r.Name)
					later.Carrier = r.Carrier
					m.Lines = append(m.Lines, line("C", r), line("R", later))
				default:
					r = someRequest(&x, fmt.Sprint("r", x.next(2000)))
					m.Lines = append(m.Lines, line([]string{"N", "H"}[x.next(2)], r))
				}
			}
			m.Lines = m.Lines[:min(len(m.Lines), 63)]
			if k := len(m.Lines); k > 0 && m.Lines[k-1].Action == "C" {
				m.Lines = m.Lines[:k-1]
			}
			messages = append(messages, m)
		}
		want, wrong, ok := modelOf(messages)
		got, at, e := message.Requests(messages)
		is(t, fmt.Sprint("Requests ", seed), e == api.OK, ok)
		is(t, fmt.Sprint("index of Requests ", seed), at, wrong)
		isList(t, fmt.Sprint("Requests ", seed), got, want)
		if ok {
			good++
		}
	}
	is(t, "some are good, and some are not", good > 30 && good < 370, true)
}

// P2.7: a message of changes leaves the requests after, from those before.
func TestChangesLeadThere(t *testing.T) {
	x := noise(3)
	for range 500 {
		before := someRequests(&x, x.next(33))
		after := someRequests(&x, x.next(33))
		for i := range min(len(before), len(after)) {
			switch x.next(3) {
			case 0:
				after[i] = before[i]
			case 1:
				after[i].Carrier = before[i].Carrier
			}
		}
		for i, r := range slices.Backward(after) {
			other := x.next(i + 1)
			after[i], after[other] = after[other], r
		}
		l, e := message.Changed(before, after)
		if e == api.ErrMany {
			continue
		}
		is(t, "Changed", e, api.OK)
		left, at, e := message.Requests([]message.Message{on(1, lines("N", before)...), on(2, l...)})
		is(t, "Requests", e, api.OK)
		is(t, "index of Requests", at, 0)
		is(t, "number of requests", len(left), len(after))
		for _, r := range after {
			day := 2
			if slices.Contains(before, r) {
				day = 1
			}
			is(t, fmt.Sprint(r, " is left"), slices.Contains(left, entry(r, day)), true)
		}
	}
}

// P2.7: the results of the answer are the results; P2.6: what is granted is what the answer grants.
func TestResultsOfAnswers(t *testing.T) {
	x := noise(4)
	for range 500 {
		requests := someRequests(&x, x.next(65))
		var results []message.Result
		var want []api.Request
		for _, r := range requests {
			switch x.next(3) {
			case 0:
				results = append(results, refused(r.Name))
				continue
			case 1:
				r.Minute = x.next(1440)
			}
			results = append(results, granted(r.Name, r.Minute))
			want = append(want, r)
		}
		m, e := message.Answers("here", "W2026", 100, requests, results)
		is(t, "Answers", e, api.OK)
		back, e := message.Results(m)
		is(t, "Results", e, api.OK)
		isList(t, "Results", back, results)
		got, e := message.Granted(requests, results)
		is(t, "Granted", e, api.OK)
		isList(t, "Granted", got, want)
		s, _ := message.PrintMessage(m)
		sent, _, e := message.ParseMessage(s)
		is(t, "the answer is sent", e, api.OK)
		isMessage(t, "the answer is sent", sent, m)
	}
}

// P2.7: links are symmetric: each pair is an arrival and a departure of one carrier, each of which has the name of the other one.
func TestLinksAreSymmetric(t *testing.T) {
	x := noise(5)
	good := 0
	for range 3000 {
		requests := series(x.next(6))
		for i := range requests {
			// Neighbours are linked, but for a few links that are different.
			requests[i].Kind = []string{"A", "D"}[i%2]
			if other := i ^ 1; other < len(requests) {
				requests[i].Link = fmt.Sprint("q", other)
			}
			switch x.next(20) {
			case 0:
				requests[i].Link = ""
			case 1:
				requests[i].Kind = []string{"A", "D"}[x.next(2)]
			case 2:
				requests[i].Carrier = "cd"
			case 3:
				requests[i].Link = fmt.Sprint("q", (i+1+x.next(4))%5)
			}
		}
		if slices.ContainsFunc(requests, func(r api.Request) bool { return r.Link == r.Name }) {
			continue
		}
		pairs, e := message.Pairs(requests)
		want, ok := linksByDefinition(requests)
		is(t, fmt.Sprint("Pairs of ", requests), e == api.OK, ok)
		isList(t, fmt.Sprint("Pairs of ", requests), pairs, want)
		if ok {
			good++
		}
	}
	is(t, "some are good, and some are not", good > 300 && good < 2700, true)
}

// linksByDefinition compares each arrival with each departure: the pairs, and whether no other request has a link.
func linksByDefinition(requests []api.Request) ([][2]int, bool) {
	var pairs [][2]int
	linked := 0
	for i, a := range requests {
		if a.Link != "" {
			linked++
		}
		for j, d := range requests {
			if a.Kind == "A" && d.Kind == "D" && a.Carrier == d.Carrier && a.Link == d.Name && d.Link == a.Name {
				pairs = append(pairs, [2]int{i, j})
			}
		}
	}
	if 2*len(pairs) != linked {
		return nil, false
	}
	return pairs, true
}
