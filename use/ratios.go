package use

import (
	"maps"
	"slices"

	"turnround/api"
	"turnround/calendar"
	"turnround/check"
	"turnround/lists"
)

const (
	percent    = 100
	daysOfWeek = 7
)

// Kept reports whether a ratio keeps the right.
func Kept(r Rule, x Ratio) (bool, api.Errno) {
	if e := check.First(CheckRule(r), checkRatio(x)); e != api.OK {
		return false, e
	}
	return r.keeps(x), api.OK
}

// Missing returns how many more flown slots a right would need.
func Missing(r Rule, x Ratio) (int, api.Errno) {
	if e := check.First(CheckRule(r), checkRatio(x)); e != api.OK {
		return 0, e
	}
	least := (r.Share*x.Due + percent - 1) / percent
	return max(0, least-x.Flown), api.OK
}

// Weekdays returns the mask of the weekdays whose slots keep their right.
func Weekdays(r Rule, slots []Slot, l []Note) (int, api.Errno) {
	return ask(ledger{r, slots, l}, ledger.weekdays)
}

// Table returns the ratio of each series, and whether its right is kept.
func Table(r Rule, slots []Slot, l []Note) ([]Row, api.Errno) {
	return ask(ledger{r, slots, l}, ledger.table)
}

func checkRatio(x Ratio) api.Errno {
	return check.First(
		check.Range(x.Flown, 0, MaxSlots),
		check.Range(x.Due, 0, MaxSlots),
		check.Unless(x.Flown <= x.Due, api.ErrOrder),
	)
}

// keeps reports whether a ratio keeps the right.
func (r Rule) keeps(x Ratio) bool { return x.Due > 0 && percent*x.Flown >= r.Share*x.Due }

func (g ledger) weekdays() int {
	var ratios [daysOfWeek]Ratio
	for i, s := range g.statuses() {
		w, _ := calendar.Weekday(dayOf(g.slots[i]))
		ratios[w] = ratios[w].with(s)
	}
	mask := 0
	for w, x := range ratios {
		if g.rule.keeps(x) {
			mask |= 1 << w
		}
	}
	return mask
}

func (g ledger) table() []Row {
	ratios := map[string]Ratio{}
	for i, s := range g.statuses() {
		name := g.slots[i].Name
		ratios[name] = ratios[name].with(s)
	}
	return lists.Transform(slices.Sorted(maps.Keys(ratios)), func(name string) Row {
		return Row{Name: name, Ratio: ratios[name], Kept: g.rule.keeps(ratios[name])}
	})
}
