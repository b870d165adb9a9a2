package allocate

import (
	"cmp"
	"iter"
	"slices"

	"turnround/api"
	"turnround/capacity"
	"turnround/tally"
)

// option is a minute of the first wish of a unit, and one of the second wish, or none.
type option [2]int

// refusal is what a unit has that is refused.
var refusal = option{none, none}

// unit is a wish without a link, or two linked ones, with their indices in the list, and the movements of their requests.
type unit struct {
	at     []int
	wishes []Wish
	asked  []tally.Series
}

// unitsOf returns the units of wishes, in the order of their first wishes.
func unitsOf(l []Wish) []unit {
	var units []unit
	for i, partner := range partnersOf(l) {
		switch {
		case partner == none:
			units = append(units, unitOf(l, i))
		case partner > i:
			units = append(units, unitOf(l, i, partner))
		}
	}
	return units
}

// unitOf returns the unit of the wishes with some indices.
func unitOf(l []Wish, at ...int) unit {
	u := unit{at: at}
	for _, i := range at {
		u.wishes = append(u.wishes, l[i])
		u.asked = append(u.asked, tally.SeriesOf(l[i].Request))
	}
	return u
}

// options returns the options of a unit, in the order of preference.
func (u unit) options() []option {
	var options []option
	others := []int{none}
	if u.isPair() {
		others = candidates(u.wishes[1])
	}
	for _, minute := range candidates(u.wishes[0]) {
		for _, other := range others {
			if o := (option{minute, other}); u.permits(o) {
				options = append(options, o)
			}
		}
	}
	// Options with one sum of distances keep their order: the first wish decides, and then the second one.
	slices.SortStableFunc(options, func(a, b option) int { return cmp.Compare(u.distance(a), u.distance(b)) })
	return options
}

// preferred visits the options that a unit prefers to what it has, in the order of preference.
func (u unit) preferred(has option) iter.Seq[option] {
	return func(yield func(option) bool) {
		for _, o := range u.options() {
			if o == has || !yield(o) {
				return
			}
		}
	}
}

// first returns the first option of a unit whose movements fit, or a refusal.
func (u unit) first(fits func(...tally.Series) bool) option {
	for o := range u.preferred(refusal) {
		if fits(u.movements(o)...) {
			return o
		}
	}
	return refusal
}

// has returns what a unit has by results.
func (u unit) has(r []Result) option {
	has := refusal
	for i, at := range u.at {
		if r[at].Granted {
			has[i] = r[at].Minute
		}
	}
	return has
}

// give changes the results of a unit to an option, or to a refusal.
func (u unit) give(o option, r []Result) {
	for i, at := range u.at {
		r[at] = refused(u.wishes[i])
		if o != refusal {
			r[at].Minute, r[at].Granted = o[i], true
		}
	}
}

// movements returns the movements of a unit at an option, or none at a refusal.
func (u unit) movements(o option) []tally.Series {
	if o == refusal {
		return nil
	}
	movements := slices.Clone(u.asked)
	for i, s := range u.asked {
		movements[i] = s.At(o[i])
	}
	return movements
}

// distance returns the sum of the absolute differences of an option from the minutes of the requests.
func (u unit) distance(o option) int {
	sum := 0
	for i, w := range u.wishes {
		sum += distance(w, o[i])
	}
	return sum
}

// permits reports whether an option has a permitted ground time.
func (u unit) permits(o option) bool {
	if !u.isPair() {
		return true
	}
	in, out := u.turn()
	ground := o[out] - o[in]
	return u.wishes[in].Least <= ground && ground <= u.wishes[in].Most
}

// isWhole reports whether no wish of a unit is granted alone, or beside one with which its ground time is not permitted.
func (u unit) isWhole(r []Result) bool {
	has := u.has(r)
	return has == refusal || !slices.Contains(has[:len(u.at)], none) && u.permits(has)
}

func (u unit) isPair() bool { return len(u.wishes) == 2 }

// turn returns which one of two linked wishes is the arrival, and which one the departure.
func (u unit) turn() (in, out int) {
	if u.wishes[0].Request.Kind == api.Arrival {
		return 0, 1
	}
	return 1, 0
}

// tallyOf returns the tally of limits with the movements that units were granted.
func tallyOf(limits []capacity.Limit, units []unit, r []Result) *tally.Tally {
	t := tally.Of(limits)
	for _, u := range units {
		t.Put(u.movements(u.has(r))...)
	}
	return t
}
