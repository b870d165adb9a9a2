package office

import (
	"slices"

	"turnround/api"
	"turnround/check"
	"turnround/lists"
)

// noSlot is the minute of a series that has no slot.
const noSlot = 1440

// The outcomes of complaints.
const (
	rejected = 0
	upheld   = 1
)

// after returns the register after an event that has to have a number, or the error with which it is not accepted.
func (r Register) after(number int, e api.Event) (Register, api.Errno) {
	if err := CheckEvent(e); err != api.OK {
		return Register{}, err
	}
	known := e.Values[0]
	err := check.First(
		check.Unless(e.Number == number, api.ErrOrder),
		check.Unless(r.Known <= known, api.ErrState),
		check.Day(known),
	)
	if err != api.OK {
		return Register{}, err
	}
	// Which entries count for the event is judged as of the day on which it is known.
	r.Known = known
	return kinds()[e.Kind].do(r, e)
}

// add does what an event does that adds an entry.
func (r Register) add(e api.Event) (Register, api.Errno) {
	added := entryOf(e)
	_, isTaken := r.entry(added.Name)
	err := check.First(
		check.Unless(!isTaken, api.ErrTwice),
		check.Unless(len(r.Entries) < MaxEntries, api.ErrMany),
		r.checkBase(added),
		check.Range(added.Minute, 0, noSlot),
		check.Days(added.From, added.To),
	)
	if err != api.OK {
		return Register{}, err
	}
	r.Entries = with(r.Entries, added)
	return r, api.OK
}

// reverse does what an event does that reverses a ruling.
func (r Register) reverse(e api.Event) (Register, api.Errno) {
	ruling, isThere := r.entry(e.Names[0])
	err := check.First(
		check.Unless(isThere, api.ErrUnknown),
		check.Unless(ruling.Kind == rule, api.ErrKind),
		r.checkCounts(ruling),
	)
	if err != api.OK {
		return Register{}, err
	}
	return r.without(ruling.Name), api.OK
}

// complain does what an event does that complains about an entry.
func (r Register) complain(e api.Event) (Register, api.Errno) {
	c := Complaint{Name: e.Names[0], Entry: e.Names[1], Known: r.Known}
	_, isTaken := r.complaint(c.Name)
	about, isThere := r.entry(c.Entry)
	err := check.First(
		check.Unless(!isTaken, api.ErrTwice),
		check.Unless(len(r.Complaints) < MaxComplaints, api.ErrMany),
		check.Unless(isThere, api.ErrUnknown),
		r.checkCounts(about),
	)
	if err != api.OK {
		return Register{}, err
	}
	r.Complaints = with(r.Complaints, c)
	return r, api.OK
}

// decide does what an event does that decides a complaint.
func (r Register) decide(e api.Event) (Register, api.Errno) {
	c, isThere := r.complaint(e.Names[0])
	outcome := e.Values[1]
	err := check.First(
		check.Unless(isThere, api.ErrUnknown),
		check.Unless(!c.Closed, api.ErrOver),
		check.Range(outcome, rejected, upheld),
	)
	if err != api.OK {
		return Register{}, err
	}
	c.Closed, c.Upheld = true, outcome == upheld
	r.Complaints = lists.Transform(r.Complaints, func(other Complaint) Complaint {
		if other.Name == c.Name {
			return c
		}
		return other
	})
	if c.Upheld {
		return r.without(c.Entry), api.OK
	}
	return r, api.OK
}

// without returns the register with a removal of an entry.
func (r Register) without(entry string) Register {
	r.Removals = with(r.Removals, Removal{Entry: entry, Known: r.Known})
	return r
}

// checkBase returns the error of the base of an entry that follows one, as of the day of the register.
func (r Register) checkBase(e Entry) api.Errno {
	if e.Kind != follow {
		return api.OK
	}
	base, isThere := r.entry(e.Base)
	return check.First(check.Unless(isThere, api.ErrUnknown), r.checkCounts(base))
}

// checkCounts returns ErrOver if an entry does not count as of the day of the register, otherwise OK.
func (r Register) checkCounts(e Entry) api.Errno {
	return check.Unless(r.counts(r.Known)(e), api.ErrOver)
}

// entry returns the entry with a name, and whether there is one.
func (r Register) entry(name string) (Entry, bool) { return find(r.Entries, name, nameOf) }

// complaint returns the complaint with a name, and whether there is one.
func (r Register) complaint(name string) (Complaint, bool) {
	return find(r.Complaints, name, complaintName)
}

// entryOf returns the entry of an event that adds one.
func entryOf(e api.Event) Entry {
	// An event has a third name only if its entry has a base.
	var names [3]string
	copy(names[:], e.Names)
	return Entry{
		Name: names[0], Kind: e.Kind, Series: names[1], Base: names[2],
		Known: e.Values[0], From: e.Values[1], To: e.Values[2], Minute: e.Values[3],
	}
}

func nameOf(e Entry) string { return e.Name }

func complaintName(c Complaint) string { return c.Name }

// find returns the element of a list with a name, and whether there is one.
func find[T any](l []T, name string, nameOf func(T) string) (T, bool) {
	at := slices.IndexFunc(l, func(x T) bool { return nameOf(x) == name })
	if at < 0 {
		var none T
		return none, false
	}
	return l[at], true
}
