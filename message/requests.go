package message

import (
	"slices"

	"turnround/api"
	"turnround/calendar"
	"turnround/check"
)

const lastMinute = 1439

// name looks for the request that has it.
type name string

func (n name) isOf(q api.Request) bool { return q.Name == string(n) }

// CheckRequest returns the first error of a request, or OK.
func CheckRequest(q api.Request) api.Errno {
	return check.First(
		checkName(q.Name),
		checkName(q.Carrier),
		checkName(q.Partner),
		check.Unless(isOptionalName(q.Terminal), api.ErrName),
		check.Unless(isOptionalName(q.Link), api.ErrName),
		check.Unless(isKind(q.Kind), api.ErrKind),
		check.Unless(q.Link != q.Name, api.ErrPair),
		calendar.CheckPeriod(q.Period),
		checkMinute(q.Minute),
		check.Range(q.Seats, 0, api.MaxSeats),
		check.Range(q.Size, 1, api.MaxSize),
		check.Range(q.Noise, 0, api.MaxNoise),
	)
}

// Pairs returns the indices of the linked arrivals and departures.
func Pairs(requests []api.Request) ([][2]int, api.Errno) {
	if e := checkRequests(requests); e != api.OK {
		return nil, e
	}
	var pairs [][2]int
	for i, q := range requests {
		if q.Link == "" {
			continue
		}
		other := slices.IndexFunc(requests, name(q.Link).isOf)
		if other < 0 {
			return nil, api.ErrUnknown
		}
		if !fits(q, requests[other]) {
			return nil, api.ErrPair
		}
		if q.Kind == api.Arrival {
			pairs = append(pairs, [2]int{i, other})
		}
	}
	return pairs, api.OK
}

// fits reports whether the request that another one names as its link can be linked with it.
func fits(q, linked api.Request) bool {
	return linked.Link == q.Name && linked.Kind != q.Kind && linked.Carrier == q.Carrier
}

func checkRequests(requests []api.Request) api.Errno {
	return checkNamed(requests, func(q api.Request) string { return q.Name }, CheckRequest)
}

// checkNamed returns the error of a list of requests or results, whose elements have a name each.
func checkNamed[T any](list []T, nameOf func(T) string, checkOne func(T) api.Errno) api.Errno {
	if len(list) > api.MaxRequests {
		return api.ErrMany
	}
	seen := map[string]bool{}
	for _, x := range list {
		if e := check.First(checkOne(x), check.Unless(!seen[nameOf(x)], api.ErrTwice)); e != api.OK {
			return e
		}
		seen[nameOf(x)] = true
	}
	return api.OK
}

func checkName(s string) api.Errno { return check.Unless(calendar.IsName(s), api.ErrName) }

func checkMinute(minute int) api.Errno { return check.Range(minute, 0, lastMinute) }

func isOptionalName(s string) bool { return s == "" || calendar.IsName(s) }

func isKind(s string) bool { return s == api.Arrival || s == api.Departure }
