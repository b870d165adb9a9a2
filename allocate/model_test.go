package allocate_test

import (
	"cmp"
	"fmt"
	"slices"

	"turnround/allocate"
	"turnround/api"
	"turnround/capacity"
)

// The definitions of the chapter, word by word and without haste.

// scene is wishes beside limits.
type scene struct {
	limits []capacity.Limit
	wishes []allocate.Wish
}

// window is a window: the index of its limit, and the moment at which it begins.
type window struct {
	limit, begin int
}

// choice is the minutes of the wishes of a unit, and the same as a reason has it.
type choice struct {
	minutes []int
	other   int
}

func hasDay(p api.Period, day int) bool {
	return p.From <= day && day <= p.To && p.Days&(1<<((day+5)%7)) != 0
}

func isWindow(l capacity.Limit, begin int) bool {
	minute := begin % 1440
	return begin >= 0 && hasDay(l.Period, begin/1440) && minute%l.Step == 0 && l.From <= minute && minute <= l.To
}

func counts(l capacity.Limit, m api.Movement) bool {
	return (l.Kind == m.Kind || l.Kind == "T") && (l.Terminal == m.Terminal || l.Terminal == "")
}

// countsIn reports whether a movement counts in the window of a limit that begins at a moment.
func countsIn(l capacity.Limit, begin int, m api.Movement) bool {
	return counts(l, m) && begin <= m.Moment && m.Moment < begin+l.Length
}

// candidatesOf returns the candidates of a wish, in the order of preference.
func candidatesOf(w allocate.Wish) []int {
	var minutes []int
	for minute := w.Earliest; minute <= w.Latest; minute++ {
		if (minute-w.Request.Minute)%w.Step == 0 {
			minutes = append(minutes, minute)
		}
	}
	slices.SortFunc(minutes, func(a, b int) int {
		return cmp.Or(cmp.Compare(away(w, a), away(w, b)), cmp.Compare(a, b))
	})
	return minutes
}

func away(w allocate.Wish, minute int) int {
	if minute < w.Request.Minute {
		return w.Request.Minute - minute
	}
	return minute - w.Request.Minute
}

func movementsOf(w allocate.Wish, minute int) []api.Movement {
	q := w.Request
	var movements []api.Movement
	for day := q.Period.From; day <= q.Period.To; day++ {
		if hasDay(q.Period, day) {
			movements = append(movements, api.Movement{Moment: 1440*day + minute, Kind: q.Kind, Terminal: q.Terminal, Seats: q.Seats, Size: q.Size, Noise: q.Noise, Name: q.Name})
		}
	}
	return movements
}

// exceeded returns the windows of movements that are exceeded by them beside others.
func exceeded(limits []capacity.Limit, others, own []api.Movement) []window {
	all := slices.Concat(others, own)
	var windows []window
	for i, l := range limits {
		var begins []int
		for _, m := range own {
			for begin := m.Moment - l.Length + 1; begin <= m.Moment; begin++ {
				if isWindow(l, begin) && countsIn(l, begin, m) && !slices.Contains(begins, begin) {
					begins = append(begins, begin)
				}
			}
		}
		slices.Sort(begins)
		for _, begin := range begins {
			n := 0
			for _, m := range all {
				if countsIn(l, begin, m) {
					n++
				}
			}
			if n > l.Most {
				windows = append(windows, window{i, begin})
			}
		}
	}
	return windows
}

// unitsOf returns the indices of the wishes of each unit.
func unitsOf(l []allocate.Wish) [][]int {
	var units [][]int
	for i, w := range l {
		j := slices.IndexFunc(l, func(other allocate.Wish) bool { return other.Request.Name == w.Request.Link })
		if j < 0 {
			units = append(units, list(i))
		} else if i < j {
			units = append(units, list(i, j))
		}
	}
	return units
}

// choicesOf returns the options of a unit, in the order of preference.
func choicesOf(l []allocate.Wish, unit []int) []choice {
	var all []choice
	first := candidatesOf(l[unit[0]])
	if len(unit) == 1 {
		for _, minute := range first {
			all = append(all, choice{list(minute), -1})
		}
		return all
	}
	a, b := l[unit[0]], l[unit[1]]
	second := candidatesOf(b)
	for _, m := range first {
		for _, n := range second {
			if mayTurn(a, b, m, n) {
				all = append(all, choice{list(m, n), n})
			}
		}
	}
	slices.SortFunc(all, func(x, y choice) int {
		return cmp.Or(
			cmp.Compare(away(a, x.minutes[0])+away(b, x.minutes[1]), away(a, y.minutes[0])+away(b, y.minutes[1])),
			cmp.Compare(slices.Index(first, x.minutes[0]), slices.Index(first, y.minutes[0])),
			cmp.Compare(slices.Index(second, x.minutes[1]), slices.Index(second, y.minutes[1])),
		)
	})
	return all
}

// mayTurn reports whether the ground time of two linked wishes at two minutes is permitted.
func mayTurn(a, b allocate.Wish, m, n int) bool {
	if a.Request.Kind == "D" {
		return mayTurn(b, a, n, m)
	}
	return n-m >= a.Least && n-m <= a.Most
}

// had returns the choice that a unit has, or none.
func had(unit []int, r []allocate.Result) choice {
	if !r[unit[0]].Granted {
		return choice{nil, -1}
	}
	if len(unit) == 1 {
		return choice{list(r[unit[0]].Minute), -1}
	}
	return choice{list(r[unit[0]].Minute, r[unit[1]].Minute), r[unit[1]].Minute}
}

// movementsOfUnit returns the movements of a unit with a choice.
func movementsOfUnit(l []allocate.Wish, unit []int, c choice) []api.Movement {
	var all []api.Movement
	for i, minute := range c.minutes {
		all = append(all, movementsOf(l[unit[i]], minute)...)
	}
	return all
}

// grant returns results after a unit got a choice, or was refused.
func grant(l []allocate.Wish, unit []int, c choice, r []allocate.Result) []allocate.Result {
	r = slices.Clone(r)
	for i, at := range unit {
		r[at] = refused(l[at].Request.Name)
		if c.minutes != nil {
			r[at] = granted(l[at].Request.Name, c.minutes[i])
		}
	}
	return r
}

// movementsOfAll returns the movements of all units for which a condition on their first index holds.
func movementsOfAll(l []allocate.Wish, r []allocate.Result, holds func(first int) bool) []api.Movement {
	var all []api.Movement
	for _, unit := range unitsOf(l) {
		if holds(unit[0]) {
			all = append(all, movementsOfUnit(l, unit, had(unit, r))...)
		}
	}
	return all
}

// preferredTo returns the options that a unit prefers to what it has.
func preferredTo(l []allocate.Wish, unit []int, r []allocate.Result) []choice {
	all := choicesOf(l, unit)
	has := had(unit, r)
	for i, c := range all {
		if slices.Equal(c.minutes, has.minutes) {
			return all[:i]
		}
	}
	return all
}

// served returns the serial allocation.
func served(s scene) []allocate.Result { return servedIn(s, unitsOf(s.wishes)) }

// servedIn returns the allocation that grants to units, in their order, the first option that fits beside the units before.
func servedIn(s scene, units [][]int) []allocate.Result {
	r := refusals(s.wishes)
	for _, unit := range units {
		others := movementsOfAll(s.wishes, r, func(int) bool { return true })
		for _, c := range choicesOf(s.wishes, unit) {
			if exceeded(s.limits, others, movementsOfUnit(s.wishes, unit, c)) == nil {
				r = grant(s.wishes, unit, c, r)
				break
			}
		}
	}
	return r
}

// isExceeding reports whether an allocation exceeds a limit.
func isExceeding(s scene, r []allocate.Result) bool {
	return exceeded(s.limits, nil, movementsOfAll(s.wishes, r, func(int) bool { return true })) != nil
}

// placed returns the movements of all granted wishes, in order.
func placed(l []allocate.Wish, r []allocate.Result) []api.Movement {
	all := movementsOfAll(l, r, func(int) bool { return true })
	slices.SortFunc(all, func(a, b api.Movement) int {
		return cmp.Or(cmp.Compare(a.Moment, b.Moment), cmp.Compare(a.Kind, b.Kind), cmp.Compare(a.Name, b.Name))
	})
	return all
}

// holdersOf returns the names of the wishes of units whose first index satisfies a condition that have a movement in one of some windows.
func holdersOf(s scene, r []allocate.Result, holds func(first int) bool, windows ...window) []string {
	var names []string
	for i, w := range s.wishes {
		first := i
		for _, unit := range unitsOf(s.wishes) {
			if slices.Contains(unit, i) {
				first = unit[0]
			}
		}
		if !r[i].Granted || !holds(first) {
			continue
		}
		if slices.ContainsFunc(windows, func(x window) bool {
			return slices.ContainsFunc(movementsOf(w, r[i].Minute), func(m api.Movement) bool { return countsIn(s.limits[x.limit], x.begin, m) })
		}) {
			names = append(names, w.Request.Name)
		}
	}
	return names
}

// reasonsOf returns for each option that a unit prefers to what it has all its reasons.
func reasonsOf(s scene, r []allocate.Result) [][]allocate.Reason {
	var all [][]allocate.Reason
	for _, unit := range unitsOf(s.wishes) {
		isBetter := func(first int) bool { return first < unit[0] }
		better := movementsOfAll(s.wishes, r, isBetter)
		for _, c := range preferredTo(s.wishes, unit, r) {
			var reasons []allocate.Reason
			for _, x := range exceeded(s.limits, better, movementsOfUnit(s.wishes, unit, c)) {
				reasons = append(reasons, allocate.Reason{
					Name: s.wishes[unit[0]].Request.Name, Minute: c.minutes[0], Other: c.other,
					Limit: x.limit, Window: x.begin, Holders: holdersOf(s, r, isBetter, x),
				})
			}
			all = append(all, reasons)
		}
	}
	return all
}

// firstReasons returns the reasons of an allocation, or ErrProof.
func firstReasons(s scene, r []allocate.Result) ([]allocate.Reason, api.Errno) {
	var first []allocate.Reason
	for _, reasons := range reasonsOf(s, r) {
		if reasons == nil {
			return nil, api.ErrProof
		}
		first = append(first, reasons[0])
	}
	return first, api.OK
}

// complaintOf returns the complaint against an allocation, or ErrNone.
func complaintOf(s scene, r []allocate.Result) (allocate.Complaint, api.Errno) {
	for _, unit := range unitsOf(s.wishes) {
		better := movementsOfAll(s.wishes, r, func(first int) bool { return first < unit[0] })
		others := movementsOfAll(s.wishes, r, func(first int) bool { return first != unit[0] })
		for _, c := range preferredTo(s.wishes, unit, r) {
			own := movementsOfUnit(s.wishes, unit, c)
			if exceeded(s.limits, better, own) == nil {
				blockers := holdersOf(s, r, func(first int) bool { return first > unit[0] }, exceeded(s.limits, others, own)...)
				return allocate.Complaint{Index: unit[0], Minute: c.minutes[0], Other: c.other, Blockers: blockers}, api.OK
			}
		}
	}
	return allocate.Complaint{}, api.ErrNone
}

// wasteOf returns the waste in an allocation, or ErrNone.
func wasteOf(s scene, r []allocate.Result) (allocate.Complaint, api.Errno) {
	for _, unit := range unitsOf(s.wishes) {
		others := movementsOfAll(s.wishes, r, func(first int) bool { return first != unit[0] })
		for _, c := range preferredTo(s.wishes, unit, r) {
			if exceeded(s.limits, others, movementsOfUnit(s.wishes, unit, c)) == nil {
				return allocate.Complaint{Index: unit[0], Minute: c.minutes[0], Other: c.other}, api.OK
			}
		}
	}
	return allocate.Complaint{}, api.ErrNone
}

// displacementOf returns the displacement of an allocation.
func displacementOf(l []allocate.Wish, r []allocate.Result) int {
	sum := 0
	for i, w := range l {
		if r[i].Granted {
			sum += len(movementsOf(w, 0)) * away(w, r[i].Minute)
		}
	}
	return sum
}

// totalsOf returns the totals of all carriers.
func totalsOf(l []allocate.Wish, r []allocate.Result) []allocate.Total {
	var carriers []string
	for _, w := range l {
		carriers = append(carriers, w.Request.Carrier)
	}
	slices.Sort(carriers)
	var all []allocate.Total
	for _, carrier := range slices.Compact(carriers) {
		total := allocate.Total{Carrier: carrier}
		for i, w := range l {
			if w.Request.Carrier != carrier {
				continue
			}
			total.Asked += len(movementsOf(w, 0))
			if r[i].Granted {
				total.Granted += len(movementsOf(w, 0))
				total.Displaced += displacementOf(l[i:i+1], r[i:i+1])
			}
		}
		all = append(all, total)
	}
	return all
}

// revised returns the results with that of one more wish.
func revised(s scene, r []allocate.Result, w allocate.Wish) []allocate.Result {
	others := movementsOfAll(s.wishes, r, func(int) bool { return true })
	for _, minute := range candidatesOf(w) {
		if exceeded(s.limits, others, movementsOf(w, minute)) == nil {
			return append(slices.Clone(r), granted(w.Request.Name, minute))
		}
	}
	return append(slices.Clone(r), refused(w.Request.Name))
}

// kept returns what is left of an allocation.
func kept(s scene, r []allocate.Result) []allocate.Result {
	left := refusals(s.wishes)
	for _, unit := range unitsOf(s.wishes) {
		others := movementsOfAll(s.wishes, left, func(int) bool { return true })
		if has := had(unit, r); exceeded(s.limits, others, movementsOfUnit(s.wishes, unit, has)) == nil {
			left = grant(s.wishes, unit, has, left)
		}
	}
	return left
}

// offered returns the offers for a wish.
func offered(s scene, r []allocate.Result, index int) []int {
	w := s.wishes[index]
	others := movementsOfAll(s.wishes, r, func(first int) bool { return first != index })
	var minutes []int
	for minute := range 1440 {
		if (minute-w.Request.Minute)%w.Step == 0 && exceeded(s.limits, others, movementsOf(w, minute)) == nil {
			minutes = append(minutes, minute)
		}
	}
	return minutes
}

// someLimit is a limit near the wishes of scenes.
func (x *noise) someLimit(name string) capacity.Limit {
	l := hour(named(name), ofKind(pick(x, "A", "D", "T", "T")), ofTerminal(pick(x, "", "", "t")))
	l.Length = pick(x, 1, 10, 25, 60, 60, 90, 200, 1440)
	l.Step = pick(x, 5, 10, 15, 30, 60, 120, 1440)
	l.From = pick(x, 0, 0, 540, 580, 1300)
	l.To = pick(x, l.From, 660, 1439, 1439)
	if l.To < l.From {
		l.To = 1439
	}
	l.Period = api.Period{From: x.next(4), To: 3 + x.next(4), Days: pick(x, 127, 127, 127, 1+x.next(127))}
	l.Most = pick(x, 0, 1, 1, 1, 2, 3)
	return l
}

// someWish is a wish of a scene.
func (x *noise) someWish(name string) allocate.Wish {
	minute := pick(x, 600, 600, 605, 610, 620, 10, 1430)
	earliest := max(0, minute-x.next(90))
	latest := min(1439, minute+x.next(90))
	w := wish(name, of(pick(x, "x", "y", "z", "X")), kind(pick(x, "A", "D")), in(pick(x, "", "t", "u")), at(minute, earliest, latest), step(pick(x, 5, 10, 15, 20, 20, 30, 120)))
	w.Request.Period = api.Period{From: 2 + x.next(2), To: 3 + x.next(2), Days: pick(x, 127, 127, 127, 1+x.next(127))}
	w.Least = pick(x, 0, 0, 10, 30)
	w.Most = w.Least + pick(x, 0, 5, 30, 100)
	return w
}

// someScene is a scene in which some wishes are linked.
func (x *noise) someScene() scene {
	s := scene{}
	isDense := x.next(2) == 0
	n := x.next(8)
	for i := range x.next(4) {
		l := x.someLimit(fmt.Sprint("l", i))
		if isDense {
			l = hour(named(l.Name), lasting(pick(x, 30, 60, 90)), every(pick(x, 15, 30, 60), 0, 1439), onDays(0, 9, 127), atMost(pick(x, 1, 2)))
		}
		s.limits = append(s.limits, l)
	}
	for i := range n {
		// The order of names is not that of the list.
		w := x.someWish(fmt.Sprint("w", n-i))
		if isDense {
			w = changed(w, at(pick(x, 600, 605, 620), 560, 670), on(2, 2+x.next(2), 127))
		}
		s.wishes = append(s.wishes, w)
	}
	order := shuffle(x, ascending(n))
	for i := 1; i < n && x.next(2) == 0; i += 2 {
		a, b := &s.wishes[order[i-1]], &s.wishes[order[i]]
		a.Request.Link, b.Request.Link = b.Request.Name, a.Request.Name
		a.Request.Kind, b.Request.Kind = "A", "D"
		b.Request.Period = a.Request.Period
		if x.next(4) > 0 {
			b.Request.Terminal = a.Request.Terminal
		}
	}
	return s
}

func ascending(n int) []int {
	var all []int
	for i := range n {
		all = append(all, i)
	}
	return all
}

// someResults are results without an error that may exceed limits.
func (x *noise) someResults(l []allocate.Wish) []allocate.Result {
	r := refusals(l)
	for _, unit := range unitsOf(l) {
		if all := choicesOf(l, unit); len(all) > 0 && x.next(3) > 0 {
			r = grant(l, unit, pick(x, all...), r)
		}
	}
	return r
}

// someAllocation is an allocation that exceeds no limit: it may be the serial one, or one in another order, or any one.
func (x *noise) someAllocation(s scene) []allocate.Result {
	units := shuffle(x, unitsOf(s.wishes))
	r := refusals(s.wishes)
	switch x.next(4) {
	case 0:
		return servedIn(s, units)
	case 1, 2:
		r = served(s)
	}
	for _, unit := range units[:x.next(len(units)+1)] {
		all := append(choicesOf(s.wishes, unit), choice{nil, -1})
		if changed := grant(s.wishes, unit, pick(x, all...), r); !isExceeding(s, changed) {
			r = changed
		}
	}
	return r
}
