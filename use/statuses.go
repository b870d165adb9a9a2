package use

import (
	"slices"

	"turnround/api"
	"turnround/check"
	"turnround/lists"
)

// status says how a slot was used.
type status int

const (
	returned status = iota
	flown
	excused
	missed
)

var statusNames = [4]string{"returned", "flown", "excused", "missed"}

// ledger has slots and records, and the rule by which the records say how the slots were used.
type ledger struct {
	rule  Rule
	slots []Slot
	notes []Note
}

// Status returns the status of each slot by the records.
func Status(r Rule, slots []Slot, l []Note) ([]string, api.Errno) {
	return ask(ledger{r, slots, l}, func(g ledger) []string {
		return lists.Transform(g.statuses(), func(s status) string { return statusNames[s] })
	})
}

// RatioOf returns the ratio of all slots by the records.
func RatioOf(r Rule, slots []Slot, l []Note) (Ratio, api.Errno) {
	return ask(ledger{r, slots, l}, ledger.ratio)
}

func (g ledger) check() api.Errno {
	return check.First(CheckRule(g.rule), CheckSlots(g.slots), CheckNotes(g.notes))
}

func (g ledger) statuses() []status {
	due := lists.Filter(lists.Ascending(len(g.slots)), func(i int) bool { return !g.isReturned(g.slots[i]) })
	dueSlots := lists.Transform(due, func(i int) Slot { return g.slots[i] })
	unused := board{g.rule, dueSlots, flights(g.notes)}.missed()
	all := slices.Repeat([]status{returned}, len(g.slots))
	for place, i := range due {
		switch {
		case !slices.Contains(unused, place):
			all[i] = flown
		case g.isExcused(g.slots[i]):
			all[i] = excused
		default:
			all[i] = missed
		}
	}
	return all
}

// isReturned reports whether a slot was handed back in time.
func (g ledger) isReturned(s Slot) bool {
	return slices.ContainsFunc(g.notes, func(n Note) bool {
		return n.Kind == back && n.isAbout(s) && n.Told+g.rule.Notice <= dayOf(s)
	})
}

// isExcused reports whether there is an excuse for a slot that was not used.
func (g ledger) isExcused(s Slot) bool {
	return slices.ContainsFunc(g.notes, func(n Note) bool {
		isExcuse := n.Kind == weather || n.Kind == cancel && slices.Contains(g.rule.Causes, n.Cause)
		return isExcuse && n.isAbout(s)
	})
}

func (g ledger) ratio() Ratio {
	var x Ratio
	for _, s := range g.statuses() {
		x = x.with(s)
	}
	return x
}

// with returns the ratio with a slot more.
func (x Ratio) with(s status) Ratio {
	if s != returned {
		x.Due++
	}
	if s == flown || s == excused {
		x.Flown++
	}
	return x
}
