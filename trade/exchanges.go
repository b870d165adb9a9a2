package trade

import (
	"cmp"
	"slices"

	"turnround/api"
	"turnround/check"
	"turnround/lists"
)

// minRing is the least number of slots in a ring.
const minRing = 2

// Swap returns the book in which two slots have exchanged their holders.
func Swap(b Book, one, two string) (Book, api.Errno) { return Ring(b, []string{one, two}) }

// Ring returns the book in which slots have passed their holders on.
func Ring(b Book, slots []string) (Book, api.Errno) {
	return act(nil, b, func(d desk) (Book, api.Errno) { return d.ring(slots) })
}

// Transfer returns the book in which a slot has another holder.
func Transfer(b Book, carrier, slot, to string) (Book, api.Errno) {
	return act(nil, b, func(d desk) (Book, api.Errno) { return d.transfer(carrier, slot, to) })
}

// Lend returns the book in which a slot is leased.
func Lend(b Book, carrier, slot string, l Lease) (Book, api.Errno) {
	return act(nil, b, func(d desk) (Book, api.Errno) { return d.lend(carrier, slot, l) })
}

// Recall returns the book in which a lease ends before a day.
func Recall(b Book, carrier, slot string, day int) (Book, api.Errno) {
	return act(nil, b, func(d desk) (Book, api.Errno) { return d.recall(carrier, slot, day) })
}

// Share returns the book in which a carrier more shares a slot.
func Share(b Book, carrier, slot, with string) (Book, api.Errno) {
	return act(nil, b, func(d desk) (Book, api.Errno) { return d.share(carrier, slot, with) })
}

func (d desk) ring(names []string) (Book, api.Errno) {
	if e := d.checkRing(names); e != api.OK {
		return Book{}, e
	}
	members := lists.Transform(names, d.slot)
	holders := lists.Transform(members, holderOf)
	e := check.First(
		check.Unless(!slices.ContainsFunc(members, isLeased), api.ErrState),
		check.Unless(areDifferent(holders), api.ErrHolder),
	)
	if e != api.OK {
		return Book{}, e
	}
	next := map[string]string{}
	for place := range len(names) {
		next[names[(place+1)%len(names)]] = holders[place]
	}
	return d.changed(func(s *Slot) { pass(s, next[nameOf(*s)]) }, names...), api.OK
}

func (d desk) transfer(carrier, slot, to string) (Book, api.Errno) {
	s, e := d.heldBy(carrier, slot, check.Name(to))
	e = check.First(
		e,
		check.Unless(to != s.Holder, api.ErrHolder),
		check.Unless(!isLeased(s), api.ErrState),
	)
	if e != api.OK {
		return Book{}, e
	}
	return d.changed(func(s *Slot) { pass(s, to) }, slot), api.OK
}

func (d desk) lend(carrier, slot string, l Lease) (Book, api.Errno) {
	s, e := d.heldBy(carrier, slot, checkLease(l))
	e = check.First(
		e,
		checkLeaseOf(s, l),
		check.Unless(!slices.ContainsFunc(s.Leases, l.overlaps), api.ErrClash),
		check.Unless(len(s.Leases) < MaxLeases, api.ErrMany),
	)
	if e != api.OK {
		return Book{}, e
	}
	return d.changed(func(s *Slot) { s.Leases = withLease(s.Leases, l) }, slot), api.OK
}

func (d desk) recall(carrier, slot string, day int) (Book, api.Errno) {
	s, e := d.heldBy(carrier, slot, check.Day(day))
	recalled := leaseOn(s.Leases, day)
	e = check.First(e, check.Unless(recalled != Lease{}, api.ErrNone))
	if e != api.OK {
		return Book{}, e
	}
	isRecalled := func(l Lease) bool { return l == recalled }
	return d.changed(func(s *Slot) { s.Leases = ended(s.Leases, day, isRecalled) }, slot), api.OK
}

func (d desk) share(carrier, slot, with string) (Book, api.Errno) {
	s, e := d.heldBy(carrier, slot, check.Name(with))
	e = check.First(
		e,
		check.Unless(with != s.Holder, api.ErrHolder),
		check.Unless(!slices.Contains(s.Shares, with), api.ErrTwice),
		check.Unless(len(s.Shares) < MaxShares, api.ErrMany),
	)
	if e != api.OK {
		return Book{}, e
	}
	return d.changed(func(s *Slot) { s.Shares = append(s.Shares, with) }, slot), api.OK
}

// checkRing returns the error of the names of slots in a ring.
func (d desk) checkRing(names []string) api.Errno {
	isKnown := func(name string) api.Errno {
		_, unknown := slotOf(d.book, name)
		return unknown
	}
	return check.First(
		check.Unless(len(names) >= minRing, api.ErrShort),
		check.Named(names, MaxRing, itself, isKnown),
	)
}

// slot returns the slot with a name that is known.
func (d desk) slot(name string) Slot {
	s, _ := slotOf(d.book, name)
	return s
}

// pass gives a slot another holder, for whom it is not shared.
func pass(s *Slot, to string) {
	s.Holder = to
	s.Shares = nil
}

func holderOf(s Slot) string { return s.Holder }

func isLeased(s Slot) bool { return len(s.Leases) > 0 }

func areDifferent(texts []string) bool {
	once := check.Once()
	return !slices.ContainsFunc(texts, func(s string) bool { return once(s) != api.OK })
}

// overlaps reports whether two leases have a day in common.
func (l Lease) overlaps(other Lease) bool {
	return max(l.From, other.From) <= min(l.To, other.To)
}

// withLease returns leases, which are changed, with a further one at its place.
func withLease(leases []Lease, l Lease) []Lease {
	leases = append(leases, l)
	slices.SortFunc(leases, func(a, b Lease) int { return cmp.Compare(a.From, b.From) })
	return leases
}

// ended returns leases of which some end before a day at the latest; one that has no day left is removed.
func ended(leases []Lease, day int, ends func(Lease) bool) []Lease {
	left := lists.Transform(leases, func(l Lease) Lease {
		if ends(l) {
			l.To = min(l.To, day-1)
		}
		return l
	})
	return slices.DeleteFunc(left, func(l Lease) bool { return l.To < l.From })
}
