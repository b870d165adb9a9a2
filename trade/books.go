package trade

import (
	"cmp"
	"iter"
	"slices"

	"turnround/api"
	"turnround/calendar"
	"turnround/capacity"
	"turnround/check"
	"turnround/message"
)

// nobody is the name of no slot.
const nobody = ""

// CheckSlot returns the first error of a slot, or OK.
func CheckSlot(s Slot) api.Errno {
	return check.First(
		checkRequest(s.Request),
		check.Name(s.Holder),
		checkLeases(s),
		checkShares(s),
	)
}

// CheckBook returns the first error of a book, or OK.
func CheckBook(b Book) api.Errno {
	once := check.Once()
	e := check.List(b.Slots, MaxSlots, func(s Slot) api.Errno {
		return check.First(CheckSlot(s), once(nameOf(s)))
	})
	if e != api.OK {
		return e
	}
	var before Wish
	return check.List(b.Waiting, MaxWaiting, func(w Wish) api.Errno {
		e := check.First(checkWish(w), once(w.Request.Name), check.Unless(before.compare(w) < 0, api.ErrOrder))
		before = w
		return e
	})
}

// Movements returns the movements of all slots of a book.
func Movements(b Book) ([]api.Movement, api.Errno) {
	if e := CheckBook(b); e != api.OK {
		return nil, e
	}
	return movementsBut(b, nobody), api.OK
}

// Holder returns the holder of a slot.
func Holder(b Book, slot string) (string, api.Errno) {
	if e := CheckBook(b); e != api.OK {
		return "", e
	}
	s, e := slotOf(b, slot)
	return s.Holder, e
}

// Operator returns who uses a slot on a day.
func Operator(b Book, slot string, day int) (string, api.Errno) {
	if e := CheckBook(b); e != api.OK {
		return "", e
	}
	s, unknown := slotOf(b, slot)
	isOperated, _ := calendar.Has(s.Request.Period, day)
	if e := check.First(unknown, check.Day(day), check.Unless(isOperated, api.ErrOutside)); e != api.OK {
		return "", e
	}
	if l := leaseOn(s.Leases, day); l != (Lease{}) {
		return l.Carrier, api.OK
	}
	return s.Holder, api.OK
}

func nameOf(s Slot) string { return s.Request.Name }

func itself(name string) string { return name }

func checkRequest(q api.Request) api.Errno {
	days, _ := calendar.Count(q.Period)
	return check.First(message.CheckRequest(q), check.Unless(days > 0, api.ErrEmpty))
}

// checkLeases returns the first error of the leases of a slot.
func checkLeases(s Slot) api.Errno {
	before := Lease{To: -1}
	return check.List(s.Leases, MaxLeases, func(l Lease) api.Errno {
		e := check.First(checkLease(l), checkLeaseOf(s, l), check.Unless(before.To < l.From, api.ErrClash))
		before = l
		return e
	})
}

// checkLease returns the error of a lease by itself.
func checkLease(l Lease) api.Errno {
	return check.First(check.Name(l.Carrier), check.Days(l.From, l.To))
}

// checkLeaseOf returns the error of a lease, which has none by itself, for a slot.
func checkLeaseOf(s Slot, l Lease) api.Errno {
	period := s.Request.Period
	return check.First(
		check.Unless(period.From <= l.From && l.To <= period.To, api.ErrOutside),
		check.Unless(l.Carrier != s.Holder, api.ErrHolder),
	)
}

// checkShares returns the first error of the carriers that share a slot.
func checkShares(s Slot) api.Errno {
	return check.Named(s.Shares, MaxShares, itself, func(carrier string) api.Errno {
		return check.First(check.Name(carrier), check.Unless(carrier != s.Holder, api.ErrHolder))
	})
}

func checkWish(w Wish) api.Errno {
	return check.First(checkRequest(w.Request), check.Range(w.Rank, 0, api.MaxNumber))
}

// compare compares wishes by ranks, then by names.
func (w Wish) compare(other Wish) int {
	return cmp.Or(cmp.Compare(w.Rank, other.Rank), cmp.Compare(w.Request.Name, other.Request.Name))
}

// slotOf returns the slot with a name, or ErrUnknown.
func slotOf(b Book, name string) (Slot, api.Errno) {
	at := slices.IndexFunc(b.Slots, func(s Slot) bool { return nameOf(s) == name })
	if at < 0 {
		return Slot{}, api.ErrUnknown
	}
	return b.Slots[at], api.OK
}

// slotsBut visits the slots of a book in order, without the one with a name.
func slotsBut(b Book, name string) iter.Seq[Slot] {
	return func(yield func(Slot) bool) {
		for _, s := range b.Slots {
			if nameOf(s) != name && !yield(s) {
				return
			}
		}
	}
}

// movementsBut returns the movements of a book in order, without those of the slot with a name.
func movementsBut(b Book, name string) []api.Movement {
	var movements []api.Movement
	for s := range slotsBut(b, name) {
		own, _ := capacity.Movements(s.Request)
		movements = append(movements, own...)
	}
	slices.SortFunc(movements, check.CompareMovements)
	return movements
}

// leaseOn returns the lease that contains a day, or an empty one if there is none.
func leaseOn(leases []Lease, day int) Lease {
	var found Lease
search:
	for _, l := range leases {
		switch {
		case day < l.From:
			break search
		case day <= l.To:
			found = l
			break search
		}
	}
	return found
}
