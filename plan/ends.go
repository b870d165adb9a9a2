package plan

import (
	"turnround/allocate"
	"turnround/api"
	"turnround/calendar"
	"turnround/capacity"
	"turnround/lists"
	"turnround/tally"
)

// end is an airport: its limits, and the movements that wishes would have there if each of them were granted the minute 0.
type end struct {
	limits []capacity.Limit
	asked  []tally.Series
}

// guest is a wish at an airport: its movements there as an end has them, and the tally of what is there.
type guest struct {
	there *tally.Tally
	asked tally.Series
}

// near returns the airport that is asked by wishes.
func near(limits []capacity.Limit, l []allocate.Wish) end {
	return end{limits, lists.Transform(l, func(w allocate.Wish) tally.Series {
		return tally.SeriesOf(w.Request).At(0)
	})}
}

// far returns the airport at which flights arrive.
func far(limits []capacity.Limit, flights []Flight) end {
	return end{limits, lists.Transform(flights, func(f Flight) tally.Series {
		days, _ := calendar.DaysOf(f.Wish.Request.Period)
		return tally.Series{Kind: api.Arrival, Days: days, Minute: f.Block}
	})}
}

// chosen returns the movements of a wish at a choice.
func chosen(asked tally.Series, minute int) tally.Series {
	if minute == refusal {
		return tally.Series{}
	}
	return asked.At(asked.Minute + minute)
}

// guests returns the wishes at an airport without movements.
func (e end) guests() []guest {
	there := tally.Of(e.limits)
	return lists.Transform(e.asked, func(asked tally.Series) guest { return guest{there, asked} })
}

// fits reports whether no window of the movements at a choice would be exceeded with them.
func (g guest) fits(minute int) bool { return g.there.Fits(chosen(g.asked, minute)) }

// enter adds the movements at a choice to those that are there.
func (g guest) enter(minute int) { g.there.Put(chosen(g.asked, minute)) }

// leave takes the movements at a choice, which entered, away again.
func (g guest) leave(minute int) { g.there.Take(chosen(g.asked, minute)) }

// admit lets the movements of a plan enter, up to a wish that does not fit, and reports whether the plan fits.
func admit(guests []guest, plan []int) bool {
	for i, g := range guests {
		if !g.fits(plan[i]) {
			return false
		}
		g.enter(plan[i])
	}
	return true
}

// dismiss lets the movements of a plan leave.
func dismiss(guests []guest, plan []int) {
	for i, g := range guests {
		g.leave(plan[i])
	}
}
