package use

import (
	"slices"

	"turnround/api"
	"turnround/check"
)

// Covered returns a cover that proves that no more pairs are possible.
func Covered(r Rule, slots []Slot, records []Slot) (Cover, api.Errno) {
	return ask(board{r, slots, records}, board.cover)
}

// CheckCover returns OK for a cover.
func CheckCover(r Rule, slots []Slot, records []Slot, c Cover) api.Errno {
	found, e := ask(board{r, slots, records}, func(b board) api.Errno { return b.checkCover(c) })
	return check.First(e, found)
}

func (b board) checkCover(c Cover) api.Errno {
	e := check.First(checkIndices(c.Slots, len(b.slots)), checkIndices(c.Records, len(b.records)))
	if e != api.OK {
		return e
	}
	isLeast := len(c.Slots)+len(c.Records) == len(b.matches())
	return check.Unless(isLeast && b.isCover(c), api.ErrProof)
}

// checkIndices returns the first error of ascending indices of a list with n elements.
func checkIndices(l []int, n int) api.Errno {
	before := -1
	for _, i := range l {
		if e := check.First(check.Unless(isIndex(i, n), api.ErrUnknown), check.Unless(before < i, api.ErrOrder)); e != api.OK {
			return e
		}
		before = i
	}
	return api.OK
}

// cover has of each match the actual movement if it is reached, and otherwise the slot. A possible pair whose slot is in no match, or has a match that is reached, has an actual movement that is reached, too.
func (b board) cover() Cover {
	reached := b.reached()
	var c Cover
	for _, m := range b.matches() {
		if reached[m.Record] {
			c.Records = append(c.Records, m.Record)
		} else {
			c.Slots = append(c.Slots, m.Slot)
		}
	}
	slices.Sort(c.Records)
	return c
}

// reached returns the actual movements that are possible for a slot in no match, or for a slot whose match has one that is reached. All of them are in a match: otherwise there would be more pairs than matches.
func (b board) reached() map[int]bool {
	users := map[int]int{}
	for m := range b.made() {
		users[m.Record] = m.Slot
	}
	reached := map[int]bool{}
	open := b.missed()
search:
	for len(open) > 0 {
		slot := open[len(open)-1]
		for record := range b.records {
			if !reached[record] && b.isPair(Match{Slot: slot, Record: record}) {
				reached[record] = true
				open = append(open, users[record])
				continue search
			}
		}
		open = open[:len(open)-1]
	}
	return reached
}

// isCover reports whether each possible pair has its slot or its actual movement in a cover.
func (b board) isCover(c Cover) bool {
	records := allBut(c.Records, len(b.records))
	for _, slot := range allBut(c.Slots, len(b.slots)) {
		if slices.ContainsFunc(records, func(record int) bool { return b.isPair(Match{Slot: slot, Record: record}) }) {
			return false
		}
	}
	return true
}
