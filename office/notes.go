package office

import (
	"cmp"
	"maps"
	"slices"

	"turnround/api"
	"turnround/check"
	"turnround/lists"
)

// noteKey is what tells notes apart: their desk, and their number there.
type noteKey struct {
	desk   string
	number int
}

// CheckNotes returns the first error of notes, or OK.
func CheckNotes(l []Note) api.Errno {
	arrived := map[noteKey]Note{}
	return check.List(l, api.MaxList, func(n Note) api.Errno {
		before, isThere := arrived[n.key()]
		arrived[n.key()] = n
		return check.First(
			check.Name(n.Desk),
			check.Range(n.Number, 1, api.MaxNumber),
			check.Day(n.Day),
			check.Unless(isText(n.Text), api.ErrForm),
			check.Unless(!isThere || before == n, api.ErrConflict),
		)
	})
}

// Gather returns the collected notes.
func Gather(l []Note) ([]Note, api.Errno) {
	if e := CheckNotes(l); e != api.OK {
		return nil, e
	}
	sorted := slices.Clone(l)
	slices.SortFunc(sorted, Note.compare)
	// Notes with the same key are equal.
	return slices.Compact(sorted), api.OK
}

// Lacking returns the missing notes of each desk.
func Lacking(l []Note) ([]Missing, api.Errno) {
	isLarge := func(n Note) bool { return n.Number > api.MaxEvents }
	e := check.First(CheckNotes(l), check.Unless(!slices.ContainsFunc(l, isLarge), api.ErrLimit))
	if e != api.OK {
		return nil, e
	}
	arrived := map[noteKey]bool{}
	greatest := map[string]int{}
	for _, n := range l {
		arrived[n.key()] = true
		greatest[n.Desk] = max(greatest[n.Desk], n.Number)
	}
	missing := lists.Transform(slices.Sorted(maps.Keys(greatest)), func(desk string) Missing {
		var numbers []int
		for number := range greatest[desk] {
			if number > 0 && !arrived[noteKey{desk, number}] {
				numbers = append(numbers, number)
			}
		}
		return Missing{Desk: desk, Numbers: numbers}
	})
	return lists.Filter(missing, func(m Missing) bool { return len(m.Numbers) > 0 }), api.OK
}

func (n Note) key() noteKey { return noteKey{n.Desk, n.Number} }

// compare compares notes by days, then by desks, then by numbers.
func (n Note) compare(other Note) int {
	return cmp.Or(
		cmp.Compare(n.Day, other.Day),
		cmp.Compare(n.Desk, other.Desk),
		cmp.Compare(n.Number, other.Number),
	)
}

// isText reports whether a string may be the text of a note.
func isText(s string) bool {
	for _, r := range s {
		if r < ' ' || r > '~' {
			return false
		}
	}
	return 0 < len(s) && len(s) <= MaxNote
}
