package trade

import (
	"slices"

	"turnround/api"
	"turnround/capacity"
	"turnround/check"
	"turnround/lists"
)

// desk is where acts are done: it has a book, and the limits for what is new in it, both without an error.
type desk struct {
	limits []capacity.Limit
	book   Book
}

// act does an act at the desk of limits and a book, unless one of them has an error.
func act(limits []capacity.Limit, b Book, do func(desk) (Book, api.Errno)) (Book, api.Errno) {
	if e := checkDesk(limits, b); e != api.OK {
		return Book{}, e
	}
	return do(desk{limits: limits, book: b})
}

func checkDesk(limits []capacity.Limit, b Book) api.Errno {
	return check.First(capacity.CheckLimits(limits), CheckBook(b))
}

// heldBy returns the slot with a name, or the first error of a carrier, which has to be its holder, of the slot, and of what is said about it.
func (d desk) heldBy(carrier, slot string, said api.Errno) (Slot, api.Errno) {
	s, unknown := slotOf(d.book, slot)
	return s, check.First(check.Name(carrier), unknown, said, check.Unless(s.Holder == carrier, api.ErrHolder))
}

// isTaken reports whether a slot or a wish has a name.
func (d desk) isTaken(name string) bool {
	_, unknown := slotOf(d.book, name)
	return unknown == api.OK || slices.ContainsFunc(d.book.Waiting, func(w Wish) bool { return w.Request.Name == name })
}

// fits reports whether a request fits beside movements.
func (d desk) fits(q api.Request, movements []api.Movement) bool {
	fits, _ := capacity.Fits(d.limits, movements, q)
	return fits
}

// changed returns a copy of the book in which the slots with some names are changed.
func (d desk) changed(change func(*Slot), names ...string) Book {
	changed := copyOf(d.book)
	for i := range changed.Slots {
		if s := &changed.Slots[i]; slices.Contains(names, nameOf(*s)) {
			change(s)
		}
	}
	return changed
}

// newSlot returns the slot of a request that its carrier holds.
func newSlot(q api.Request) Slot { return Slot{Request: q, Holder: q.Carrier} }

// copyOf returns a book that shares no memory with another one.
func copyOf(b Book) Book {
	return Book{Slots: lists.Transform(b.Slots, copyOfSlot), Waiting: slices.Clone(b.Waiting)}
}

func copyOfSlot(s Slot) Slot {
	s.Leases = slices.Clone(s.Leases)
	s.Shares = slices.Clone(s.Shares)
	return s
}
