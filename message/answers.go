package message

import (
	"turnround/api"
	"turnround/check"
	"turnround/lists"
)

const lastMinute = 1439

// Answers returns the message with the results of requests.
func Answers(airport, season string, day int, requests []api.Request, results []Result) (Message, api.Errno) {
	m := Message{Kind: Answering, Airport: airport, Season: season, Day: day}
	if e := check.First(checkHeader(m), checkResultsOf(requests, results)); e != api.OK {
		return Message{}, e
	}
	for i, r := range results {
		m.Lines = append(m.Lines, answer(requests[i], r))
	}
	return m, api.OK
}

// Results returns the results that a message has.
func Results(m Message) ([]Result, api.Errno) {
	if e := check.First(CheckMessage(m), check.Unless(m.Kind == Answering, api.ErrKind)); e != api.OK {
		return nil, e
	}
	results := lists.Transform(m.Lines, resultOf)
	// The results of valid lines have no other error than a name that occurs twice.
	if e := checkResults(results); e != api.OK {
		return nil, e
	}
	return results, api.OK
}

// Granted returns the requests as they are granted.
func Granted(requests []api.Request, results []Result) ([]api.Request, api.Errno) {
	if e := checkResultsOf(requests, results); e != api.OK {
		return nil, e
	}
	var granted []api.Request
	for i, r := range results {
		if r.Granted {
			granted = append(granted, atMinute(requests[i], r.Minute))
		}
	}
	return granted, api.OK
}

// checkResultsOf returns the error of requests, of results, and of both together.
func checkResultsOf(requests []api.Request, results []Result) api.Errno {
	e := check.First(
		checkRequests(requests),
		checkResults(results),
		check.Unless(len(results) == len(requests), api.ErrShape),
	)
	if e != api.OK {
		return e
	}
	for i, r := range results {
		if r.Name != requests[i].Name {
			return api.ErrUnknown
		}
	}
	return api.OK
}

func checkResults(results []Result) api.Errno {
	return check.Named(results, api.MaxRequests, func(r Result) string { return r.Name }, checkResult)
}

func checkResult(r Result) api.Errno {
	last := 0
	if r.Granted {
		last = lastMinute
	}
	return check.First(check.Name(r.Name), check.Range(r.Minute, 0, last))
}

// answer returns the line that answers a request.
func answer(q api.Request, r Result) Line {
	switch {
	case !r.Granted:
		return Line{Action: refusedAnswer, Request: q}
	case r.Minute == q.Minute:
		return Line{Action: grantedAnswer, Request: q}
	}
	return Line{Action: movedAnswer, Request: atMinute(q, r.Minute)}
}

// resultOf returns the result that a line of an answer has.
func resultOf(l Line) Result {
	if l.Action == grantedAnswer || l.Action == movedAnswer {
		return Result{Name: l.Request.Name, Granted: true, Minute: l.Request.Minute}
	}
	return Result{Name: l.Request.Name}
}

func atMinute(q api.Request, minute int) api.Request {
	q.Minute = minute
	return q
}
