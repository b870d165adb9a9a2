package message

import (
	"slices"

	"turnround/api"
	"turnround/calendar"
	"turnround/check"
)

// name looks for the request that has it.
type name string

func (n name) isOf(q api.Request) bool { return q.Name == string(n) }

// CheckRequest returns the first error of a request, or OK.
func CheckRequest(q api.Request) api.Errno {
	return check.First(
		check.Name(q.Name),
		check.Name(q.Carrier),
		check.Name(q.Partner),
		check.OptionalName(q.Terminal),
		check.OptionalName(q.Link),
		check.Kind(q.Kind),
		check.Unless(q.Link != q.Name, api.ErrPair),
		calendar.CheckPeriod(q.Period),
		check.Minute(q.Minute),
		check.Range(q.Seats, 0, api.MaxSeats),
		check.Range(q.Size, 1, api.MaxSize),
		check.Range(q.Noise, 0, api.MaxNoise),
	)
}

// Pairs returns the indices of the linked arrivals and departures.
func Pairs(requests []api.Request) ([][2]int, api.Errno) {
	if e := checkRequests(requests); e != api.OK {
		return nil, e
	}
	var pairs [][2]int
	for i, q := range requests {
		if q.Link == "" {
			continue
		}
		other := slices.IndexFunc(requests, name(q.Link).isOf)
		if other < 0 {
			return nil, api.ErrUnknown
		}
		if !fits(q, requests[other]) {
			return nil, api.ErrPair
		}
		if q.Kind == api.Arrival {
			pairs = append(pairs, [2]int{i, other})
		}
	}
	return pairs, api.OK
}

// fits reports whether the request that another one names as its link can be linked with it.
func fits(q, linked api.Request) bool {
	return linked.Link == q.Name && linked.Kind != q.Kind && linked.Carrier == q.Carrier
}

func checkRequests(requests []api.Request) api.Errno {
	return check.Named(requests, api.MaxRequests, func(q api.Request) string { return q.Name }, CheckRequest)
}
