package use

import (
	"iter"

	"turnround/api"
	"turnround/calendar"
	"turnround/check"
)

const minutesOfDay = 1440

// CheckRule returns the first error of a rule, or OK.
func CheckRule(r Rule) api.Errno {
	return check.First(
		check.Range(r.Before, 0, MaxTolerance),
		check.Range(r.After, 0, MaxTolerance),
		check.Range(r.Notice, 0, MaxNotice),
		check.Range(r.Share, 1, MaxShare),
		check.Named(r.Causes, MaxCauses, itself, check.Name),
		check.Range(r.Off, 0, MaxTolerance),
		check.Range(r.Run, 1, MaxSlots),
	)
}

// CheckSlots returns the first error of slots, or OK.
func CheckSlots(l []Slot) api.Errno {
	return check.List(l, MaxSlots, func(s Slot) api.Errno {
		return check.First(check.Name(s.Name), check.Moment(s.Moment), check.Kind(s.Kind))
	})
}

// SlotsOf returns the slots of a series.
func SlotsOf(name, kind string, p api.Period, minute int) ([]Slot, api.Errno) {
	q := api.Request{Name: name, Kind: kind, Period: p, Minute: minute}
	if e := check.First(check.Name(name), checkTimes(q)); e != api.OK {
		return nil, e
	}
	return slotsOf(q), api.OK
}

func itself(name string) string { return name }

// checkTimes returns the first error of a series but for its name.
func checkTimes(q api.Request) api.Errno {
	return check.First(check.Kind(q.Kind), calendar.CheckPeriod(q.Period), check.Minute(q.Minute))
}

func slotsOf(q api.Request) []Slot {
	var slots []Slot
	for s := range slotsIn(q) {
		slots = append(slots, s)
	}
	return slots
}

// slotsIn visits the slots of a series in ascending order.
func slotsIn(q api.Request) iter.Seq[Slot] {
	return func(yield func(Slot) bool) {
		for n := range q.Period.To - q.Period.From + 1 {
			day := q.Period.From + n
			isDay, _ := calendar.Has(q.Period, day)
			if isDay && !yield(Slot{Name: q.Name, Moment: minutesOfDay*day + q.Minute, Kind: q.Kind}) {
				return
			}
		}
	}
}

func dayOf(s Slot) int { return s.Moment / minutesOfDay }
