package use

import (
	"cmp"
	"iter"
	"slices"

	"turnround/api"
	"turnround/check"
	"turnround/lists"
)

// board has slots and actual movements, and the rule by which they are possible pairs.
type board struct {
	rule    Rule
	slots   []Slot
	records []Slot
}

// Matches returns which slots are used by which actual movements.
func Matches(r Rule, slots []Slot, records []Slot) ([]Match, api.Errno) {
	return ask(board{r, slots, records}, board.matches)
}

// CheckMatches returns OK for pairs of slots and actual movements within the tolerances.
func CheckMatches(r Rule, slots []Slot, records []Slot, l []Match) api.Errno {
	found, e := ask(board{r, slots, records}, func(b board) api.Errno { return b.checkMatches(l) })
	return check.First(e, found)
}

// Missed returns the slots without an actual movement.
func Missed(r Rule, slots []Slot, records []Slot) ([]int, api.Errno) {
	return ask(board{r, slots, records}, board.missed)
}

// Extra returns the actual movements without a slot.
func Extra(r Rule, slots []Slot, records []Slot) ([]int, api.Errno) {
	return ask(board{r, slots, records}, board.extra)
}

// Misused reports whether the actual movements differ too much too often.
func Misused(r Rule, slots []Slot, records []Slot) (bool, api.Errno) {
	return ask(board{r, slots, records}, board.isMisused)
}

func (b board) check() api.Errno {
	return check.First(CheckRule(b.rule), CheckSlots(b.slots), CheckSlots(b.records))
}

// difference returns by how many minutes the actual movement of a pair is after its slot.
func (b board) difference(m Match) int {
	return b.records[m.Record].Moment - b.slots[m.Slot].Moment
}

// isPair reports whether a slot and an actual movement are a possible pair.
func (b board) isPair(m Match) bool {
	punctual := b.slots[m.Slot]
	punctual.Moment = b.records[m.Record].Moment
	difference := b.difference(m)
	return punctual == b.records[m.Record] && -b.rule.Before <= difference && difference <= b.rule.After
}

// made visits the matches in the order in which they are made.
func (b board) made() iter.Seq[Match] {
	return func(yield func(Match) bool) {
		taken := map[int]bool{}
		records := byMoments(b.records)
		for _, slot := range byMoments(b.slots) {
			at := slices.IndexFunc(records, func(record int) bool {
				return !taken[record] && b.isPair(Match{Slot: slot, Record: record})
			})
			if at < 0 {
				continue
			}
			taken[records[at]] = true
			if !yield(Match{Slot: slot, Record: records[at]}) {
				return
			}
		}
	}
}

// matches returns the matches in the order of their slots.
func (b board) matches() []Match {
	return slices.SortedFunc(b.made(), func(x, y Match) int { return cmp.Compare(x.Slot, y.Slot) })
}

// missed returns the slots that are in no match.
func (b board) missed() []int {
	return allBut(lists.Transform(b.matches(), func(m Match) int { return m.Slot }), len(b.slots))
}

// extra returns the actual movements that are in no match.
func (b board) extra() []int {
	return allBut(lists.Transform(b.matches(), func(m Match) int { return m.Record }), len(b.records))
}

func (b board) checkMatches(l []Match) api.Errno {
	taken := map[int]bool{}
	before := -1
	for _, m := range l {
		switch {
		case !isIndex(m.Slot, len(b.slots)) || !isIndex(m.Record, len(b.records)):
			return api.ErrUnknown
		case m.Slot <= before:
			return api.ErrOrder
		case taken[m.Record]:
			return api.ErrTwice
		case !b.isPair(m):
			return api.ErrRule
		}
		taken[m.Record] = true
		before = m.Slot
	}
	return api.OK
}

func (b board) isMisused() bool {
	run := 0
	for m := range b.made() {
		run++
		if difference := b.difference(m); -b.rule.Off <= difference && difference <= b.rule.Off {
			run = 0
		}
		if run == b.rule.Run {
			return true
		}
	}
	return false
}

// byMoments returns the indices of slots by ascending moments, and for equal moments by ascending indices.
func byMoments(l []Slot) []int {
	indices := lists.Ascending(len(l))
	slices.SortStableFunc(indices, func(i, j int) int { return cmp.Compare(l[i].Moment, l[j].Moment) })
	return indices
}

func isIndex(i, n int) bool { return 0 <= i && i < n }

// allBut returns the numbers from 0 to n - 1 without some.
func allBut(some []int, n int) []int {
	return lists.Filter(lists.Ascending(n), func(i int) bool { return !slices.Contains(some, i) })
}
