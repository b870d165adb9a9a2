package use_test

import (
	"fmt"
	"slices"
	"testing"

	"turnround/api"
	"turnround/calendar"
	"turnround/use"
)

// mostPairs returns the greatest number of possible pairs without a common slot or movement, by paths that make room for one more.
func mostPairs(r use.Rule, slots, records []use.Slot) int {
	user := map[int]int{}
	var place func(slot int, tried map[int]bool) bool
	place = func(slot int, tried map[int]bool) bool {
		for j, x := range records {
			if tried[j] || !isPair(r, slots[slot], x) {
				continue
			}
			tried[j] = true
			if other, isUsed := user[j]; !isUsed || place(other, tried) {
				user[j] = slot
				return true
			}
		}
		return false
	}
	n := 0
	for i := range slots {
		if place(i, map[int]bool{}) {
			n++
		}
	}
	return n
}

// P9.7: the matches are accepted, and no accepted pairs are more.
func TestNoAcceptedPairsAreMore(t *testing.T) {
	x := noise(71)
	crowded := 0
	for range 1500 {
		a := x.someArguments()
		what := fmt.Sprint(a.r, a.slots, a.records)
		l := ok[[]use.Match](t)(use.Matches(a.r, a.slots, a.records))
		is(t, "CheckMatches of "+what, use.CheckMatches(a.r, a.slots, a.records, l), api.OK)
		is(t, "the most pairs of "+what, len(l), mostPairs(a.r, a.slots, a.records))
		missed, extra := ok[[]int](t)(use.Missed(a.r, a.slots, a.records)), ok[[]int](t)(use.Extra(a.r, a.slots, a.records))
		is(t, "slots of "+what, len(l)+len(missed), len(a.slots))
		is(t, "movements of "+what, len(l)+len(extra), len(a.records))
		if len(missed) > 0 && len(l) > 0 {
			crowded++
		}
		var others []use.Match
		for _, m := range shuffled(&x, allPairs(a)) {
			longer := append(slices.Clone(others), m)
			slices.SortFunc(longer, func(v, w use.Match) int { return v.Slot - w.Slot })
			if use.CheckMatches(a.r, a.slots, a.records, longer) == api.OK {
				others = longer
			}
		}
		is(t, fmt.Sprint("other pairs are not more: ", others, what), len(others) <= len(l), true)
	}
	is(t, fmt.Sprint("some slots are missed beside matches: ", crowded), crowded > 300, true)
}

// allPairs returns the possible pairs of slots and actual movements.
func allPairs(a arguments) []use.Match {
	var all []use.Match
	for i, s := range a.slots {
		for j, x := range a.records {
			if isPair(a.r, s, x) {
				all = append(all, pair(i, j))
			}
		}
	}
	return all
}

// P9.7: a cover with as many indices as there are matches proves that there are no more.
func TestCoversProve(t *testing.T) {
	x := noise(72)
	mixed := 0
	for range 1500 {
		a := x.someArguments()
		what := fmt.Sprint(a.r, a.slots, a.records)
		l := ok[[]use.Match](t)(use.Matches(a.r, a.slots, a.records))
		c := ok[use.Cover](t)(use.Covered(a.r, a.slots, a.records))
		is(t, "CheckCover of "+what, use.CheckCover(a.r, a.slots, a.records, c), api.OK)
		is(t, "as many indices as matches in "+what, len(c.Slots)+len(c.Records), len(l))
		for _, m := range allPairs(a) {
			isIn := slices.Contains(c.Slots, m.Slot) || slices.Contains(c.Records, m.Record)
			is(t, fmt.Sprint("a pair is covered: ", m, c, what), isIn, true)
		}
		if len(c.Slots) > 0 && len(c.Records) > 0 {
			mixed++
		}
		for i := range c.Slots {
			fewer := use.Cover{Slots: slices.Delete(slices.Clone(c.Slots), i, i+1), Records: c.Records}
			is(t, fmt.Sprint("fewer indices are no proof: ", fewer, what), use.CheckCover(a.r, a.slots, a.records, fewer), api.ErrProof)
		}
	}
	is(t, fmt.Sprint("some covers have both: ", mixed), mixed > 300, true)
}

// P9, P9.7: the order of records has no effect on the status of a slot, nor on rights.
func TestOrderOfRecords(t *testing.T) {
	x := noise(73)
	for range 1000 {
		a := x.someArguments()
		what := fmt.Sprint(a.r, a.slots, a.l)
		want := ok[[]string](t)(use.Status(a.r, a.slots, a.l))
		for range 3 {
			l := shuffled(&x, a.l)
			isList(t, fmt.Sprint("Status with ", l, what), ok[[]string](t)(use.Status(a.r, a.slots, l)), want)
			isList(t, fmt.Sprint("Flights of ", l), ok[[]use.Slot](t)(use.Flights(l)), ok[[]use.Slot](t)(use.Flights(a.l)))
			isList(t, fmt.Sprint("Table with ", l, what), ok[[]use.Row](t)(use.Table(a.r, a.slots, l)), ok[[]use.Row](t)(use.Table(a.r, a.slots, a.l)))
			is(t, fmt.Sprint("Weekdays with ", l, what), ok[int](t)(use.Weekdays(a.r, a.slots, l)), ok[int](t)(use.Weekdays(a.r, a.slots, a.l)))
			isOutcome(t, fmt.Sprint("Rights with ", l, what), ofRights(use.Rights(a.r, a.requests, l, a.s)), ofRights(use.Rights(a.r, a.requests, a.l, a.s)))
		}
	}
}

// flownIn returns how many slots have the status flown, and which statuses each kind of slots has, in order.
func flownIn(slots []use.Slot, words []string) (int, map[use.Slot][]string) {
	n := 0
	of := map[use.Slot][]string{}
	for i, word := range words {
		of[slots[i]] = append(of[slots[i]], word)
		if word == "flown" {
			n++
		}
	}
	for _, words := range of {
		slices.Sort(words)
	}
	return n, of
}

// P9.7: the order of the slots has no effect on the number of flown ones.
func TestOrderOfSlots(t *testing.T) {
	x := noise(74)
	for range 1000 {
		a := x.someArguments()
		what := fmt.Sprint(a.r, a.slots, a.l)
		n, of := flownIn(a.slots, ok[[]string](t)(use.Status(a.r, a.slots, a.l)))
		for range 3 {
			slots := shuffled(&x, a.slots)
			m, others := flownIn(slots, ok[[]string](t)(use.Status(a.r, slots, a.l)))
			is(t, fmt.Sprint("flown ones of ", slots, what), m, n)
			for s, words := range of {
				isList(t, fmt.Sprint("statuses of equal slots ", s, slots, what), others[s], words)
			}
			is(t, fmt.Sprint("RatioOf ", slots, what), ok[use.Ratio](t)(use.RatioOf(a.r, slots, a.l)), ok[use.Ratio](t)(use.RatioOf(a.r, a.slots, a.l)))
		}
	}
}

// P9.7: a further record fly, cancel or weather never lessens Flown, and leaves Due.
func TestFurtherRecords(t *testing.T) {
	x := noise(75)
	more := map[string]int{}
	for range 1000 {
		a := x.someArguments()
		before := ok[use.Ratio](t)(use.RatioOf(a.r, a.slots, a.l))
		for _, n := range append(x.someNotes(a.slots), x.someNotes(nil)...) {
			if n.Kind == "back" {
				continue
			}
			what := fmt.Sprint(n, a.r, a.slots, a.l)
			after := ok[use.Ratio](t)(use.RatioOf(a.r, a.slots, slices.Insert(slices.Clone(a.l), x.next(len(a.l)+1), n)))
			is(t, "Flown is not less with "+what, after.Flown >= before.Flown, true)
			is(t, "Due with "+what, after.Due, before.Due)
			if after.Flown > before.Flown {
				more[n.Kind]++
			}
		}
	}
	for _, kind := range list("fly", "cancel", "weather") {
		is(t, fmt.Sprint("some of each kind make it greater: ", more), more[kind] > 30, true)
	}
}

// P9.7: a ratio to which Missing is added keeps the right, if something is due; with less it does not.
func TestMissingIsEnough(t *testing.T) {
	for percent := 1; percent <= 100; percent += 3 {
		r := rule(share(percent))
		for due := 0; due <= 512; due += 1 + due/7 {
			for flown := 0; flown <= due; flown += 1 + due/9 {
				x := use.Ratio{Flown: flown, Due: due}
				n := ok[int](t)(use.Missing(r, x))
				kept := ok[bool](t)(use.Kept(r, x))
				is(t, fmt.Sprint("nothing is missing where a right is kept: ", percent, x), kept, due > 0 && n == 0)
				x.Flown += n
				is(t, fmt.Sprint("kept with what was missing: ", percent, x), ok[bool](t)(use.Kept(r, x)), due > 0)
				if n > 0 {
					x.Flown--
					is(t, fmt.Sprint("not kept with one less: ", percent, x), ok[bool](t)(use.Kept(r, x)), false)
				}
			}
		}
	}
}

// P9.7: the ratios of all names add up; each one is the ratio of the slots of its name alone.
func TestRatiosAddUp(t *testing.T) {
	x := noise(76)
	several := 0
	for range 1000 {
		a := x.someArguments()
		what := fmt.Sprint(a.r, a.slots, a.l)
		var sum use.Ratio
		rows := ok[[]use.Row](t)(use.Table(a.r, a.slots, a.l))
		for _, row := range rows {
			sum.Flown += row.Ratio.Flown
			sum.Due += row.Ratio.Due
			own := slices.DeleteFunc(slices.Clone(a.slots), func(s use.Slot) bool { return s.Name != row.Name })
			is(t, fmt.Sprint("the ratio of one name alone: ", row, what), ok[use.Ratio](t)(use.RatioOf(a.r, own, a.l)), row.Ratio)
			is(t, fmt.Sprint("kept as by Kept: ", row, what), ok[bool](t)(use.Kept(a.r, row.Ratio)), row.Kept)
		}
		is(t, "the sum of all ratios of "+what, sum, ok[use.Ratio](t)(use.RatioOf(a.r, a.slots, a.l)))
		if len(rows) > 1 {
			several++
		}
	}
	is(t, fmt.Sprint("some have several names: ", several), several > 300, true)
}

// P9.7: an equivalent day has the weekday of its day.
func TestWeekdaysStay(t *testing.T) {
	x := noise(77)
	some := 0
	for range 2000 {
		a := x.someArguments()
		periods, e := use.Historic(a.p, a.s)
		if e != api.OK {
			continue
		}
		some++
		days := daysOf(a.p)
		at := 0
		for _, p := range periods {
			for _, day := range daysOf(p) {
				is(t, fmt.Sprint("the weekday of ", day, days[at], a.p, a.s), (day-days[at])%7, 0)
				season := ok[calendar.Season](t)(calendar.SeasonOf(day))
				is(t, fmt.Sprint("the season of ", day), season, a.s)
				is(t, fmt.Sprint("by itself ", day), ok[int](t)(calendar.Equivalent(days[at], a.s)), day)
				at++
			}
		}
		is(t, fmt.Sprint("no more days than before: ", a.p, a.s, periods), at <= len(days), true)
	}
	is(t, fmt.Sprint("there are some periods: ", some), some > 500, true)
}

// P9.7: rights are those of the table of all slots.
func TestRightsAreThoseOfTheTable(t *testing.T) {
	x := noise(78)
	some := 0
	for range 1500 {
		a := x.someArguments()
		rights, e := use.Rights(a.r, a.requests, a.l, a.s)
		if e != api.OK {
			continue
		}
		var all []use.Slot
		for _, q := range a.requests {
			all = append(all, ok[[]use.Slot](t)(use.SlotsOf(q.Name, q.Kind, q.Period, q.Minute))...)
		}
		var kept, names []string
		for _, row := range ok[[]use.Row](t)(use.Table(a.r, all, a.l)) {
			if row.Kept {
				kept = append(kept, row.Name)
			}
		}
		for _, right := range rights {
			names = append(names, right.Name)
		}
		slices.Sort(names)
		isList(t, fmt.Sprint("rights of ", a.requests, a.l), names, kept)
		some += len(names)
	}
	is(t, fmt.Sprint("there are some rights: ", some), some > 200, true)
}
