package message

import (
	"slices"

	"turnround/api"
	"turnround/check"
)

// identity is the carrier and the name of a request: a request that changes keeps them.
type identity struct {
	carrier string
	name    string
}

func identityOf(q api.Request) identity { return identity{carrier: q.Carrier, name: q.Name} }

func (id identity) isOf(q api.Request) bool { return identityOf(q) == id }

// Requests returns the requests that messages leave, and the index of the first message that is wrong.
func Requests(l []Message) ([]Entry, int, api.Errno) {
	if len(l) > MaxMessages {
		return nil, 0, api.ErrMany
	}
	var entries []Entry
	for i, m := range l {
		e := checkNext(l[0], l[max(0, i-1)], m)
		if e == api.OK {
			entries, e = entriesAfter(entries, m)
		}
		if e != api.OK {
			return nil, i, e
		}
	}
	return entries, 0, api.OK
}

// Changed returns the lines that lead from some requests to others.
func Changed(before, after []api.Request) ([]Line, api.Errno) {
	if e := check.First(checkRequests(before), checkRequests(after)); e != api.OK {
		return nil, e
	}
	var withdrawn, changed, added []Line
	for _, q := range before {
		at := slices.IndexFunc(after, identityOf(q).isOf)
		switch {
		case at < 0:
			withdrawn = append(withdrawn, Line{Action: withdrawnRequest, Request: q})
		case after[at] != q:
			changed = append(changed, Line{Action: oldRequest, Request: q}, Line{Action: changedRequest, Request: after[at]})
		}
	}
	for _, q := range after {
		if !slices.ContainsFunc(before, identityOf(q).isOf) {
			added = append(added, Line{Action: newRequest, Request: q})
		}
	}
	lines := slices.Concat(withdrawn, changed, added)
	if len(lines) > MaxLines {
		return nil, api.ErrMany
	}
	return lines, api.OK
}

// checkNext returns the error of a message by itself, and beside the first one and the one before it.
func checkNext(first, before, m Message) api.Errno {
	return check.First(
		CheckMessage(m),
		check.Unless(m.Kind == Requesting, api.ErrKind),
		check.Unless(m.Airport == first.Airport && m.Season == first.Season, api.ErrConflict),
		check.Unless(before.Day <= m.Day, api.ErrOrder),
	)
}

// entriesAfter returns what a message of requests leaves of entries, and adds to them.
func entriesAfter(entries []Entry, m Message) ([]Entry, api.Errno) {
lines:
	for _, l := range m.Lines {
		for at, entry := range entries {
			if entry.Request.Name == l.Request.Name {
				if e := checkKnown(entry, l); e != api.OK {
					return nil, e
				}
				entries = changedAt(entries, at, l, m.Day)
				continue lines
			}
		}
		if e := checkUnknown(entries, l); e != api.OK {
			return nil, e
		}
		entries = append(entries, Entry{Request: l.Request, Historic: l.Action == historicRequest, Day: m.Day})
	}
	return entries, api.OK
}

// checkKnown returns the error of a line whose name an entry has.
func checkKnown(entry Entry, l Line) api.Errno {
	switch l.Action {
	case newRequest, historicRequest:
		return api.ErrTwice
	case changedRequest:
		return api.OK
	}
	return check.Unless(l.Request == entry.Request, api.ErrConflict)
}

// checkUnknown returns the error of a line whose name no entry has.
func checkUnknown(entries []Entry, l Line) api.Errno {
	return check.First(
		check.Unless(l.Action == newRequest || l.Action == historicRequest, api.ErrUnknown),
		check.Unless(len(entries) < api.MaxRequests, api.ErrMany),
	)
}

// changedAt returns the entries after a line for the one at an index: R replaces its request, D removes it, and C is only followed by R.
func changedAt(entries []Entry, at int, l Line, day int) []Entry {
	changed := make([]Entry, len(entries))
	copy(changed, entries)
	switch l.Action {
	case changedRequest:
		changed[at].Request = l.Request
		changed[at].Day = day
	case withdrawnRequest:
		changed = slices.Delete(changed, at, at+1)
	}
	return changed
}
