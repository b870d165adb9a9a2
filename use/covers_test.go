package use_test

import (
	"fmt"
	"testing"

	"turnround/api"
	"turnround/use"
)

// P9.3: a cover has as many indices as there are matches, and one of each possible pair.
func TestCovered(t *testing.T) {
	for _, x := range scenes {
		c, e := use.Covered(x.r, x.slots, x.records)
		is(t, "Covered: "+x.what, e, api.OK)
		is(t, "indices: "+x.what, len(c.Slots)+len(c.Records), len(x.want))
		is(t, fmt.Sprint("CheckCover: ", x.what, c), use.CheckCover(x.r, x.slots, x.records, c), api.OK)
		is(t, fmt.Sprint("the model: ", x.what, c), coverError(x.r, x.slots, x.records, c), api.OK)
	}
	isFirstFault(t, "Covered", example())
	isModel(t, "Covered", 31, api.ErrRange, api.ErrName, api.ErrKind)
}

// P9.3: where one side has too few, it alone is the cover.
func TestOnlyCovers(t *testing.T) {
	for _, x := range []struct {
		what           string
		slots, records []use.Slot
		slotsOf, rest  []int
	}{
		{"one slot, two movements", at(100), at(95, 105), list(0), nil},
		{"two slots, one movement", at(100, 105), at(100), nil, list(0)},
		{"both", at(100, 105, 1000), at(100, 1000, 1005), list(2), list(0)},
		{"slots in no pair", at(1, 100, 500), at(90, 110, 900), list(1), nil},
		{"a chain of slots", at(120, 100, 140), at(130, 150), nil, list(0, 1)},
		{"movements that descend", at(300, 100, 101, 301, 302), at(310, 110, 311), nil, list(0, 1, 2)},
	} {
		c, e := use.Covered(rule(), x.slots, x.records)
		is(t, "Covered: "+x.what, e, api.OK)
		isList(t, "slots: "+x.what, c.Slots, x.slotsOf)
		isList(t, "movements: "+x.what, c.Records, x.rest)
	}
}

// P9.3: the errors of covers, in their order.
func TestCheckCover(t *testing.T) {
	slots, records := at(100, 120), at(95, 140, 300)
	cover := func(slots []int, records ...int) use.Cover { return use.Cover{Slots: slots, Records: records} }
	for _, x := range []struct {
		what string
		c    use.Cover
		e    api.Errno
	}{
		{"the slots", cover(list(0, 1)), api.OK},
		{"the movements", cover(nil, 0, 1), api.OK},
		{"one of each", cover(list(0), 1), api.OK},
		{"the other one of each", cover(list(1), 0), api.OK},
		{"nothing", cover(nil), api.ErrProof},
		{"one pair is not covered", cover(list(0)), api.ErrProof},
		{"as many indices, and one pair is not covered", cover(list(0), 0), api.ErrProof},
		{"as many indices, one of them useless", cover(list(0), 2), api.ErrProof},
		{"one index more", cover(list(0, 1), 2), api.ErrProof},
		{"all", cover(list(0, 1), 0, 1, 2), api.ErrProof},
		{"no slot", cover(list(-1)), api.ErrUnknown},
		{"no slot behind the last one", cover(list(0, 2)), api.ErrUnknown},
		{"no movement", cover(list(0), -1), api.ErrUnknown},
		{"no movement behind the last one", cover(list(0), 3), api.ErrUnknown},
		{"the same slot", cover(list(0, 0)), api.ErrOrder},
		{"slots that descend", cover(list(1, 0)), api.ErrOrder},
		{"slots that descend before an unknown one", cover(list(1, 0, 2), 3), api.ErrOrder},
		{"an unknown slot before others that descend", cover(list(2, 0), 1, 0), api.ErrUnknown},
		{"the same movement", cover(nil, 1, 1), api.ErrOrder},
		{"movements that descend", cover(list(0), 1, 0), api.ErrOrder},
		{"an unknown slot, and movements that descend", cover(list(5), 1, 0), api.ErrUnknown},
		{"slots that descend, and an unknown movement", cover(list(1, 0), 5), api.ErrOrder},
	} {
		is(t, "CheckCover: "+x.what, use.CheckCover(rule(), slots, records, x.c), x.e)
		is(t, "the model: "+x.what, coverError(rule(), slots, records, x.c), x.e)
	}
	is(t, "nothing for no pairs", use.CheckCover(rule(), at(100), at(200), use.Cover{}), api.OK)
	is(t, "something for no pairs", use.CheckCover(rule(), at(100), at(200), cover(list(0))), api.ErrProof)
	is(t, "a pair of another kind", use.CheckCover(rule(), at(100), list(slot("x", 100, "D")), use.Cover{}), api.OK)
	isFirstFault(t, "CheckCover", example(),
		fault{"an unknown slot", api.ErrUnknown, func(x *arguments) { x.c.Slots = list(9) }},
		fault{"movements that descend", api.ErrOrder, func(x *arguments) { x.c.Records = list(1, 0) }},
	)
	isModel(t, "CheckCover", 32, api.ErrUnknown, api.ErrOrder, api.ErrProof)
}
