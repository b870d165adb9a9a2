package trade

import (
	"turnround/api"
	"turnround/capacity"
	"turnround/check"
)

const (
	// anyNumber is the number of names of a ring.
	anyNumber = -1
	// maxNames is the greatest number of names of any other event.
	maxNames = 5
)

// eventAct is how many names and values an event of a kind has, and what is done for it.
type eventAct struct {
	names  int
	values int
	do     func(api.Event) (Book, api.Errno)
}

// Apply returns the book after an event.
func Apply(limits []capacity.Limit, b Book, e api.Event) (Book, api.Errno) {
	return act(limits, b, func(d desk) (Book, api.Errno) { return d.apply(e) })
}

// Replay returns the book after events, and the index of the first event that is not accepted.
func Replay(limits []capacity.Limit, events []api.Event) (Book, int, api.Errno) {
	e := check.First(capacity.CheckLimits(limits), check.Unless(len(events) <= api.MaxEvents, api.ErrMany))
	if e != api.OK {
		return Book{}, 0, e
	}
	d := desk{limits: limits}
	for i, event := range events {
		if event.Number != i+1 {
			return Book{}, i, api.ErrOrder
		}
		d.book, e = d.apply(event)
		if e != api.OK {
			return Book{}, i, e
		}
	}
	return d.book, 0, api.OK
}

func (d desk) apply(e api.Event) (Book, api.Errno) {
	a, isKnown := d.acts()[e.Kind]
	err := check.First(
		check.Range(e.Number, 1, api.MaxEvents),
		check.Unless(isKnown, api.ErrKind),
		check.Unless(a.suits(e), api.ErrShape),
		check.Unless(e.Text == "", api.ErrForm),
	)
	if err != api.OK {
		return Book{}, err
	}
	return a.do(e)
}

// acts returns what is done at a desk for events, by their kinds.
func (d desk) acts() map[string]eventAct {
	ring := func(e api.Event) (Book, api.Errno) { return d.ring(e.Names) }
	return map[string]eventAct{
		"hold":     {names: 5, values: 7, do: func(e api.Event) (Book, api.Errno) { return d.hold(requestOf(e)) }},
		"back":     withNumber(d.back),
		"swap":     {names: 2, do: ring},
		"ring":     {names: anyNumber, do: ring},
		"transfer": withCarrier(d.transfer),
		"lend":     {names: 3, values: 2, do: d.lendBy},
		"recall":   withNumber(d.recall),
		"share":    withCarrier(d.share),
		"retime":   withNumber(d.retime),
		"wait":     {names: 5, values: 8, do: func(e api.Event) (Book, api.Errno) { return d.wait(wishOf(e)) }},
		"serve":    {do: d.serveBy},
	}
}

// suits reports whether an event has as many names and values as it has to have.
func (a eventAct) suits(e api.Event) bool {
	return (a.names == anyNumber || a.names == len(e.Names)) && a.values == len(e.Values)
}

// withNumber returns what is done for an event with a carrier, a slot and a number.
func withNumber(do func(carrier, slot string, number int) (Book, api.Errno)) eventAct {
	return eventAct{names: 2, values: 1, do: func(e api.Event) (Book, api.Errno) {
		names := namesOf(e)
		return do(names[0], names[1], e.Values[0])
	}}
}

// withCarrier returns what is done for an event with a carrier, a slot and another carrier.
func withCarrier(do func(carrier, slot, other string) (Book, api.Errno)) eventAct {
	return eventAct{names: 3, do: func(e api.Event) (Book, api.Errno) {
		names := namesOf(e)
		return do(names[0], names[1], names[2])
	}}
}

func (d desk) lendBy(e api.Event) (Book, api.Errno) {
	names := namesOf(e)
	return d.lend(names[0], names[1], Lease{Carrier: names[2], From: e.Values[0], To: e.Values[1]})
}

func (d desk) serveBy(api.Event) (Book, api.Errno) {
	book, _ := d.serve()
	return book, api.OK
}

func namesOf(e api.Event) [maxNames]string {
	var names [maxNames]string
	copy(names[:], e.Names)
	return names
}

// requestOf returns the request of an event that has at least its values.
func requestOf(e api.Event) api.Request {
	names, v := namesOf(e), e.Values
	return api.Request{
		Name: names[0], Carrier: names[1], Kind: names[2], Terminal: names[3], Partner: names[4],
		Period: api.Period{From: v[0], To: v[1], Days: v[2]},
		Minute: v[3], Seats: v[4], Size: v[5], Noise: v[6],
	}
}

func wishOf(e api.Event) Wish { return Wish{Request: requestOf(e), Rank: e.Values[7]} }
