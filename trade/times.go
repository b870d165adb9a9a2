package trade

import (
	"slices"

	"turnround/api"
	"turnround/calendar"
	"turnround/capacity"
	"turnround/check"
)

// Hold returns the book with a slot more.
func Hold(limits []capacity.Limit, b Book, q api.Request) (Book, api.Errno) {
	return act(limits, b, func(d desk) (Book, api.Errno) { return d.hold(q) })
}

// Back returns the book in which a slot is handed back from a day on.
func Back(b Book, carrier, slot string, day int) (Book, api.Errno) {
	return act(nil, b, func(d desk) (Book, api.Errno) { return d.back(carrier, slot, day) })
}

// Retime returns the book in which a slot has another minute.
func Retime(limits []capacity.Limit, b Book, carrier, slot string, minute int) (Book, api.Errno) {
	return act(limits, b, func(d desk) (Book, api.Errno) { return d.retime(carrier, slot, minute) })
}

func (d desk) hold(q api.Request) (Book, api.Errno) {
	e := check.First(
		checkRequest(q),
		check.Unless(!d.isTaken(q.Name), api.ErrTwice),
		check.Unless(len(d.book.Slots) < MaxSlots, api.ErrMany),
	)
	if e != api.OK {
		return Book{}, e
	}
	if !d.fits(q, movementsBut(d.book, nobody)) {
		return Book{}, api.ErrFull
	}
	held := copyOf(d.book)
	held.Slots = append(held.Slots, newSlot(q))
	return held, api.OK
}

func (d desk) back(carrier, slot string, day int) (Book, api.Errno) {
	s, e := d.heldBy(carrier, slot, check.Day(day))
	left := s.Request.Period
	e = check.First(e, check.Unless(day <= left.To, api.ErrOutside))
	if e != api.OK {
		return Book{}, e
	}
	left.To = day - 1
	// A period that would end before it begins has an error, and no days beside it.
	if days, _ := calendar.Count(left); days == 0 {
		return d.without(slot), api.OK
	}
	return d.changed(func(s *Slot) {
		s.Request.Period = left
		s.Leases = ended(s.Leases, day, func(Lease) bool { return true })
	}, slot), api.OK
}

func (d desk) retime(carrier, slot string, minute int) (Book, api.Errno) {
	s, e := d.heldBy(carrier, slot, check.Minute(minute))
	if e != api.OK {
		return Book{}, e
	}
	s.Request.Minute = minute
	if !d.fits(s.Request, movementsBut(d.book, slot)) {
		return Book{}, api.ErrFull
	}
	return d.changed(func(s *Slot) { s.Request.Minute = minute }, slot), api.OK
}

// without returns a copy of the book without the slot with a name.
func (d desk) without(name string) Book {
	left := copyOf(d.book)
	left.Slots = slices.DeleteFunc(left.Slots, func(s Slot) bool { return nameOf(s) == name })
	return left
}
