package office

import (
	"slices"

	"turnround/api"
	"turnround/calendar"
	"turnround/check"
	"turnround/lists"
)

// nothing is the base of an entry that rests on no other one.
const nothing = ""

// bases has the base of each entry by its name.
type bases map[string]string

// Counting returns the entries that count as of a day of knowledge.
func Counting(l []api.Event, known int) ([]string, api.Errno) {
	return ask(l, func(r Register) ([]string, api.Errno) { return r.counting(known) })
}

// Resting returns the entries that rest on an entry.
func Resting(l []api.Event, entry string) ([]string, api.Errno) {
	return ask(l, func(r Register) ([]string, api.Errno) { return r.resting(entry) })
}

// Minute returns the minute of a series as of a day of knowledge, on a day.
func Minute(l []api.Event, series string, known, day int) (int, api.Errno) {
	return ask(l, func(r Register) (int, api.Errno) { return r.minute(series, known, day) })
}

// AsOf returns the slots of all series as of a day of knowledge, on a day.
func AsOf(l []api.Event, known, day int) ([]Slot, api.Errno) {
	return ask(l, func(r Register) ([]Slot, api.Errno) { return r.slots(known, day) })
}

// History returns how the minute of a series on a day was known.
func History(l []api.Event, series string, day int) ([]Turn, api.Errno) {
	return ask(l, func(r Register) ([]Turn, api.Errno) { return r.turns(series, day) })
}

// Differences returns the days on which two days of knowledge differ.
func Differences(l []api.Event, series string, first, second int, p api.Period) ([]int, api.Errno) {
	return ask(l, func(r Register) ([]int, api.Errno) { return r.differences(series, first, second, p) })
}

// ask returns the answer to a question about the register after events, or their error.
func ask[T any](l []api.Event, question func(Register) (T, api.Errno)) (T, api.Errno) {
	r, _, e := Replay(l)
	if e != api.OK {
		var none T
		return none, e
	}
	return question(r)
}

func (r Register) counting(known int) ([]string, api.Errno) {
	if e := check.Day(known); e != api.OK {
		return nil, e
	}
	return lists.Transform(r.standing(known), nameOf), api.OK
}

func (r Register) resting(entry string) ([]string, api.Errno) {
	_, isThere := r.entry(entry)
	if e := check.First(check.Name(entry), check.Unless(isThere, api.ErrUnknown)); e != api.OK {
		return nil, e
	}
	isEntry := func(name string) bool { return name == entry }
	under := basesOf(r.Entries)
	resting := lists.Filter(r.Entries, func(e Entry) bool { return under.leadTo(e.Base, isEntry) })
	return lists.Transform(resting, nameOf), api.OK
}

func (r Register) minute(series string, known, day int) (int, api.Errno) {
	if e := check.First(check.Name(series), check.Day(known), check.Day(day)); e != api.OK {
		return 0, e
	}
	return slotOn(r.standing(known), series, day).Minute, api.OK
}

func (r Register) slots(known, day int) ([]Slot, api.Errno) {
	if e := check.First(check.Day(known), check.Day(day)); e != api.OK {
		return nil, e
	}
	standing := r.standing(known)
	names := lists.Transform(standing, func(e Entry) string { return e.Series })
	slices.Sort(names)
	slots := lists.Transform(slices.Compact(names), func(series string) Slot { return slotOn(standing, series, day) })
	return lists.Filter(slots, func(s Slot) bool { return s.Minute < noSlot }), api.OK
}

func (r Register) turns(series string, day int) ([]Turn, api.Errno) {
	if e := check.First(check.Name(series), check.Day(day)); e != api.OK {
		return nil, e
	}
	var turns []Turn
	before := slotOn(nil, series, day)
	for _, known := range r.days() {
		slot := slotOn(r.standing(known), series, day)
		if slot != before {
			turns = append(turns, Turn{Known: known, Minute: slot.Minute})
		}
		before = slot
	}
	return turns, api.OK
}

func (r Register) differences(series string, first, second int, p api.Period) ([]int, api.Errno) {
	e := check.First(check.Name(series), check.Day(first), check.Day(second), calendar.CheckPeriod(p))
	if e != api.OK {
		return nil, e
	}
	one, other := r.standing(first), r.standing(second)
	days, _ := calendar.DaysOf(p)
	return lists.Filter(days, func(day int) bool { return slotOn(one, series, day) != slotOn(other, series, day) }), api.OK
}

// days returns the days on which entries and removals are known, ascending.
func (r Register) days() []int {
	days := slices.Concat(
		lists.Transform(r.Entries, func(e Entry) int { return e.Known }),
		lists.Transform(r.Removals, func(x Removal) int { return x.Known }),
	)
	slices.Sort(days)
	return slices.Compact(days)
}

// standing returns the entries that count as of a day of knowledge, in their order.
func (r Register) standing(known int) []Entry { return lists.Filter(r.Entries, r.counts(known)) }

// counts returns a function that reports whether an entry counts as of a day of knowledge.
func (r Register) counts(known int) func(Entry) bool {
	removed := map[string]bool{}
	for _, x := range r.Removals {
		removed[x.Entry] = removed[x.Entry] || x.Known <= known
	}
	isRemoved := func(name string) bool { return removed[name] }
	under := basesOf(r.Entries)
	return func(e Entry) bool { return e.Known <= known && !under.leadTo(e.Name, isRemoved) }
}

func basesOf(l []Entry) bases {
	all := bases{}
	for _, e := range l {
		all[e.Name] = e.Base
	}
	return all
}

// leadTo reports whether an entry, or one on which it rests, is looked for.
func (b bases) leadTo(name string, isLookedFor func(string) bool) bool {
chain:
	for {
		switch {
		case name == nothing:
			break chain
		case isLookedFor(name):
			return true
		}
		name = b[name]
	}
	return false
}

// slotOn returns a series with the minute of its last entry, among some, that has a day.
func slotOn(standing []Entry, series string, day int) Slot {
	slot := Slot{Series: series, Minute: noSlot}
	for _, e := range standing {
		if e.Series == series && e.From <= day && day <= e.To {
			slot.Minute = e.Minute
		}
	}
	return slot
}
