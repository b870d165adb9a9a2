package use

import (
	"cmp"
	"slices"

	"turnround/api"
	"turnround/check"
	"turnround/lists"
)

// The kinds of records.
const (
	fly     = "fly"
	back    = "back"
	cancel  = "cancel"
	weather = "weather"
)

// CheckNotes returns the first error of records, or OK.
func CheckNotes(l []Note) api.Errno { return check.List(l, MaxNotes, checkNote) }

// Flights returns the actual movements of records, in order.
func Flights(l []Note) ([]Slot, api.Errno) {
	if e := CheckNotes(l); e != api.OK {
		return nil, e
	}
	return flights(l), api.OK
}

func checkNote(n Note) api.Errno {
	name, days := check.Name(n.Name), check.Days(n.From, n.To)
	switch n.Kind {
	case fly:
		return check.First(name, check.Moment(n.Moment), check.Kind(n.Move), n.isOnly(Note{Name: n.Name, Moment: n.Moment, Move: n.Move}))
	case back:
		return check.First(name, days, check.Day(n.Told), n.isOnly(Note{Name: n.Name, From: n.From, To: n.To, Told: n.Told}))
	case cancel:
		return check.First(name, days, check.Name(n.Cause), n.isOnly(Note{Name: n.Name, From: n.From, To: n.To, Cause: n.Cause}))
	case weather:
		return check.First(days, n.isOnly(Note{From: n.From, To: n.To}))
	}
	return api.ErrKind
}

// isOnly returns ErrForm if a record has more than its kind and the fields of another one, otherwise OK.
func (n Note) isOnly(fields Note) api.Errno {
	fields.Kind = n.Kind
	return check.Unless(n == fields, api.ErrForm)
}

func flights(l []Note) []Slot {
	sorted := slices.Clone(l)
	slices.SortFunc(sorted, Note.compareFlights)
	return lists.Transform(lists.Filter(sorted, Note.isFlight), Note.flight)
}

func (n Note) isFlight() bool { return n.Kind == fly }

// flight returns the actual movement of a record.
func (n Note) flight() Slot { return Slot{Name: n.Name, Moment: n.Moment, Kind: n.Move} }

// compareFlights compares the actual movements of records by moments, then by names, then by kinds.
func (n Note) compareFlights(other Note) int {
	return cmp.Or(
		cmp.Compare(n.Moment, other.Moment),
		cmp.Compare(n.Name, other.Name),
		cmp.Compare(n.Move, other.Move),
	)
}

// isAbout reports whether a record has the day of a slot, and its name unless it is about all series.
func (n Note) isAbout(s Slot) bool {
	day := dayOf(s)
	return (n.Name == s.Name || n.Kind == weather) && n.From <= day && day <= n.To
}
