package plan_test

import (
	"cmp"
	"iter"
	"slices"

	"turnround/allocate"
	"turnround/api"
	"turnround/capacity"
	"turnround/plan"
)

// The definitions of the chapter, word by word and without haste.

func hasDay(p api.Period, day int) bool {
	return p.From <= day && day <= p.To && p.Days&(1<<((day+5)%7)) != 0
}

// beginsOf returns the moments at which the windows of a limit begin.
func beginsOf(l capacity.Limit) []int {
	var begins []int
	for day := l.Period.From; day <= l.Period.To; day++ {
		for minute := 0; minute <= l.To; minute += l.Step {
			if hasDay(l.Period, day) && minute >= l.From {
				begins = append(begins, 1440*day+minute)
			}
		}
	}
	return begins
}

// countsIn reports whether a movement counts in the window of a limit that begins at a moment.
func countsIn(l capacity.Limit, begin int, m api.Movement) bool {
	return (l.Kind == m.Kind || l.Kind == "T") && (l.Terminal == m.Terminal || l.Terminal == "") && begin <= m.Moment && m.Moment < begin+l.Length
}

func away(w allocate.Wish, minute int) int {
	if minute < w.Request.Minute {
		return w.Request.Minute - minute
	}
	return minute - w.Request.Minute
}

func candidatesOf(w allocate.Wish) []int {
	var minutes []int
	for minute := w.Earliest; minute <= w.Latest; minute++ {
		if (minute-w.Request.Minute)%w.Step == 0 {
			minutes = append(minutes, minute)
		}
	}
	slices.SortFunc(minutes, func(a, b int) int {
		return cmp.Or(cmp.Compare(away(w, a), away(w, b)), cmp.Compare(a, b))
	})
	return minutes
}

func choicesOf(w allocate.Wish) []int { return append(candidatesOf(w), -1) }

// movementsOf returns the movements of a wish at a choice.
func movementsOf(w allocate.Wish, choice int) []api.Movement {
	q := w.Request
	var movements []api.Movement
	for day := q.Period.From; day <= q.Period.To; day++ {
		if choice != -1 && hasDay(q.Period, day) {
			movements = append(movements, api.Movement{Moment: 1440*day + choice, Kind: q.Kind, Terminal: q.Terminal, Seats: q.Seats, Size: q.Size, Noise: q.Noise, Name: q.Name})
		}
	}
	return movements
}

// arrivalsOf returns the arrivals of a flight at a choice.
func arrivalsOf(f plan.Flight, choice int) []api.Movement {
	arrivals := movementsOf(f.Wish, choice)
	for i := range arrivals {
		arrivals[i].Moment += f.Block
		arrivals[i].Kind, arrivals[i].Terminal = "A", ""
	}
	return arrivals
}

// countIn returns the number of movements in the window of a limit that begins at a moment.
func countIn(l capacity.Limit, begin int, movements []api.Movement) int {
	n := 0
	for _, m := range movements {
		if countsIn(l, begin, m) {
			n++
		}
	}
	return n
}

// exceeds reports whether a window is exceeded by movements.
func exceeds(limits []capacity.Limit, movements []api.Movement) bool {
	for _, l := range limits {
		for _, begin := range beginsOf(l) {
			if countIn(l, begin, movements) > l.Most {
				return true
			}
		}
	}
	return false
}

// fitBeside reports whether no window of own movements is exceeded by them and others.
func fitBeside(limits []capacity.Limit, others, own []api.Movement) bool {
	for _, l := range limits {
		for _, begin := range beginsOf(l) {
			if n := countIn(l, begin, own); n > 0 && n+countIn(l, begin, others) > l.Most {
				return false
			}
		}
	}
	return true
}

// costOf returns the cost of a choice of a wish.
func costOf(w allocate.Wish, penalty, choice int) int {
	n := len(movementsOf(w, 0))
	if choice == -1 {
		return n * penalty
	}
	return n * away(w, choice)
}

// planCost returns the cost of a plan.
func planCost(p plan.Problem, choices []int) int {
	sum := 0
	for i, w := range p.Wishes {
		sum += costOf(w, p.Penalty, choices[i])
	}
	return sum
}

// fits reports whether a plan fits.
func fits(p plan.Problem, choices []int) bool {
	var all []api.Movement
	for i, w := range p.Wishes {
		all = append(all, movementsOf(w, choices[i])...)
	}
	return !exceeds(p.Limits, all)
}

// burdensOf returns the burdens of a plan.
func burdensOf(p plan.Problem, choices []int) []plan.Burden {
	var all []plan.Burden
	for _, w := range p.Wishes {
		carrier := w.Request.Carrier
		if slices.ContainsFunc(all, func(b plan.Burden) bool { return b.Carrier == carrier }) {
			continue
		}
		sum := 0
		for i, other := range p.Wishes {
			if other.Request.Carrier == carrier {
				sum += costOf(other, p.Penalty, choices[i])
			}
		}
		all = append(all, plan.Burden{Carrier: carrier, Cost: sum})
	}
	slices.SortFunc(all, func(a, b plan.Burden) int {
		return cmp.Or(-cmp.Compare(a.Cost, b.Cost), cmp.Compare(a.Carrier, b.Carrier))
	})
	return all
}

// costsOf returns the list of costs of burdens.
func costsOf(l []plan.Burden) []int {
	var costs []int
	for _, b := range l {
		costs = append(costs, b.Cost)
	}
	return costs
}

// improved returns a plan after the best single change, and what it saves; nothing if none saves anything.
func improved(p plan.Problem, choices []int) ([]int, int) {
	var best []int
	most := 0
	for i, w := range p.Wishes {
		for _, choice := range choicesOf(w) {
			other := slices.Clone(choices)
			other[i] = choice
			if saved := planCost(p, choices) - planCost(p, other); saved > most && fits(p, other) {
				best, most = other, saved
			}
		}
	}
	return best, most
}

// table has windows: the greatest number of movements, and for each wish and choice whether one of its movements counts.
type table []row

type row struct {
	most int
	in   []map[int]bool
}

// tableOf returns the table of limits; movements has those of each wish by its choices.
func tableOf(limits []capacity.Limit, movements []map[int][]api.Movement) table {
	var t table
	for _, l := range limits {
		for _, begin := range beginsOf(l) {
			r := row{most: l.Most}
			n := 0
			for _, byChoice := range movements {
				in := map[int]bool{}
				for choice, own := range byChoice {
					if countIn(l, begin, own) > 0 {
						in[choice] = true
					}
				}
				n += min(len(in), 1)
				r.in = append(r.in, in)
			}
			if n > l.Most {
				t = append(t, r)
			}
		}
	}
	return t
}

// fits reports whether the choices for a set of wishes exceed no window.
func (t table) fits(set, choices []int) bool {
	for _, r := range t {
		n := 0
		for at, i := range set {
			if r.in[i][choices[at]] {
				n++
			}
		}
		if n > r.most {
			return false
		}
	}
	return true
}

// nearTable returns the table of an airport that is asked by wishes.
func nearTable(limits []capacity.Limit, l []allocate.Wish) table {
	var all []map[int][]api.Movement
	for _, w := range l {
		own := map[int][]api.Movement{}
		for _, choice := range choicesOf(w) {
			own[choice] = movementsOf(w, choice)
		}
		all = append(all, own)
	}
	return tableOf(limits, all)
}

// bothTables returns the tables of both ends of a route.
func bothTables(r plan.Route) table {
	var all []map[int][]api.Movement
	for _, f := range r.Flights {
		own := map[int][]api.Movement{}
		for _, choice := range choicesOf(f.Wish) {
			own[choice] = arrivalsOf(f, choice)
		}
		all = append(all, own)
	}
	return append(nearTable(r.Near, wishesOf(r)), tableOf(r.Far, all)...)
}

func wishesOf(r plan.Route) []allocate.Wish {
	var l []allocate.Wish
	for _, f := range r.Flights {
		l = append(l, f.Wish)
	}
	return l
}

// product visits all lists with one of the elements of each list, the earlier ones first.
func product(lists [][]int) iter.Seq[[]int] {
	return func(yield func([]int) bool) {
		if len(lists) == 0 {
			yield(nil)
			return
		}
		for _, first := range lists[0] {
			for rest := range product(lists[1:]) {
				if !yield(append(list(first), rest...)) {
					return
				}
			}
		}
	}
}

// ascending returns the numbers from 0 to n - 1.
func ascending(n int) []int {
	var all []int
	for i := range n {
		all = append(all, i)
	}
	return all
}

// plansOf visits the plans of a problem that fit, in order.
func plansOf(p plan.Problem) iter.Seq[[]int] {
	return func(yield func([]int) bool) {
		t := nearTable(p.Limits, p.Wishes)
		var lists [][]int
		for _, w := range p.Wishes {
			lists = append(lists, choicesOf(w))
		}
		for choices := range product(lists) {
			if t.fits(ascending(len(p.Wishes)), choices) && !yield(choices) {
				return
			}
		}
	}
}

// bestOf returns the best plan.
func bestOf(p plan.Problem) ([]int, int) {
	var best []int
	least := -1
	for choices := range plansOf(p) {
		if n := planCost(p, choices); least < 0 || n < least {
			best, least = choices, n
		}
	}
	return best, least
}

// fairestOf returns the fairest plan.
func fairestOf(p plan.Problem) ([]int, []plan.Burden) {
	var fairest []int
	var least []plan.Burden
	isFirst := true
	for choices := range plansOf(p) {
		if b := burdensOf(p, choices); isFirst || slices.Compare(costsOf(b), costsOf(least)) < 0 {
			fairest, least, isFirst = choices, b, false
		}
	}
	return fairest, least
}

// boundOf returns the bound by prices.
func boundOf(p plan.Problem, l []plan.Price, unit int) int {
	sum := 0
	for _, w := range p.Wishes {
		var values []int
		for _, choice := range choicesOf(w) {
			value := unit * costOf(w, p.Penalty, choice)
			for _, x := range l {
				value += x.Amount * countIn(p.Limits[x.Limit], x.Window, movementsOf(w, choice))
			}
			values = append(values, value)
		}
		sum += slices.Min(values)
	}
	for _, x := range l {
		sum -= x.Amount * p.Limits[x.Limit].Most
	}
	least := sum/unit - 1
	for least*unit < sum {
		least++
	}
	return least
}

// jointPlans visits the plans without -1 for a set of flights that fit at both ends, in order.
func jointPlans(r plan.Route, t table, set []int) iter.Seq[[]int] {
	return func(yield func([]int) bool) {
		var lists [][]int
		for _, i := range set {
			lists = append(lists, candidatesOf(r.Flights[i].Wish))
		}
		for choices := range product(lists) {
			if t.fits(set, choices) && !yield(choices) {
				return
			}
		}
	}
}

// jointOf returns the joint plan of a route, or no cost if there is none.
func jointOf(r plan.Route) ([]int, int) {
	var best []int
	least := -1
	for choices := range jointPlans(r, bothTables(r), ascending(len(r.Flights))) {
		if n := planCost(plan.Problem{Wishes: wishesOf(r)}, choices); least < 0 || n < least {
			best, least = choices, n
		}
	}
	return best, least
}

// setsOf returns all sets of flights: the smaller ones first, and those with the same number in lexicographic order.
func setsOf(n int) [][]int {
	var sets [][]int
	for bits := range 1 << n {
		var set []int
		for i := range n {
			if bits>>i&1 == 1 {
				set = append(set, i)
			}
		}
		sets = append(sets, set)
	}
	slices.SortFunc(sets, func(a, b []int) int {
		return cmp.Or(cmp.Compare(len(a), len(b)), slices.Compare(a, b))
	})
	return sets
}

// isConflict reports whether no plan for a set of flights fits at both ends.
func isConflict(r plan.Route, t table, set []int) bool {
	for range jointPlans(r, t, set) {
		return false
	}
	return true
}

// isLeast reports whether a conflict is least.
func isLeast(r plan.Route, t table, set []int) bool {
	for i := range set {
		if isConflict(r, t, slices.Delete(slices.Clone(set), i, i+1)) {
			return false
		}
	}
	return true
}

// talkOf returns the rounds of the talk.
func talkOf(r plan.Route) []plan.Round {
	var left [][]int
	for _, f := range r.Flights {
		left = append(left, candidatesOf(f.Wish))
	}
	var rounds []plan.Round
	for {
		var round plan.Round
		var leaving, arriving []api.Movement
		for i, f := range r.Flights {
			offered := -1
			for _, minute := range left[i] {
				if fitBeside(r.Near, leaving, movementsOf(f.Wish, minute)) {
					offered = minute
					break
				}
			}
			round.Offered = append(round.Offered, offered)
			leaving = append(leaving, movementsOf(f.Wish, offered)...)
		}
		for i, f := range r.Flights {
			own := arrivalsOf(f, round.Offered[i])
			if round.Offered[i] == -1 || fitBeside(r.Far, arriving, own) {
				arriving = append(arriving, own...)
				continue
			}
			round.Refused = append(round.Refused, i)
			left[i] = slices.DeleteFunc(left[i], func(minute int) bool { return minute == round.Offered[i] })
		}
		rounds = append(rounds, round)
		if round.Refused == nil {
			return rounds
		}
	}
}

// arrivalsOfPlan returns the arrivals of a plan in order.
func arrivalsOfPlan(r plan.Route, choices []int) []api.Movement {
	var all []api.Movement
	for i, f := range r.Flights {
		all = append(all, arrivalsOf(f, choices[i])...)
	}
	slices.SortStableFunc(all, func(a, b api.Movement) int {
		return cmp.Or(cmp.Compare(a.Moment, b.Moment), cmp.Compare(a.Kind, b.Kind), cmp.Compare(a.Name, b.Name))
	})
	return all
}
