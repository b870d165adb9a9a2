package priority

import (
	"cmp"
	"slices"

	"turnround/api"
	"turnround/calendar"
	"turnround/check"
	"turnround/lists"
)

// Lots returns the lot of each claim.
func Lots(key int, claims []Claim) ([]int, api.Errno) {
	if e := check.First(checkDraw(key), checkClaims(claims)); e != api.OK {
		return nil, e
	}
	return lotsOf(key, claims), api.OK
}

// CheckLots returns OK if lots are those of a key.
func CheckLots(key int, claims []Claim, lots []int) api.Errno {
	right, e := Lots(key, claims)
	return check.First(e, checkProof(lots, right))
}

// Interleave returns an order in which newcomers have their share.
func Interleave(of, places int, newcomers []bool) ([]int, api.Errno) {
	e := check.First(
		check.Range(of, 1, MaxShare),
		check.Range(places, 0, of),
		check.Unless(len(newcomers) <= api.MaxRequests, api.ErrMany),
	)
	if e != api.OK {
		return nil, e
	}
	return interleave(of, places, newcomers), api.OK
}

func checkDraw(key int) api.Errno { return check.Range(key, 1, MaxKey) }

// checkProof returns the error of what is given for what is right.
func checkProof(given, right []int) api.Errno {
	return check.First(
		check.Unless(len(given) == len(right), api.ErrShape),
		check.Unless(slices.Equal(given, right), api.ErrProof),
	)
}

// lotsOf returns the lot of each claim; their names decide which one has which, so that the order in which they are given does not.
func lotsOf(key int, claims []Claim) []int {
	byName := lists.Transform(claims, func(c Claim) api.Request { return c.Request })
	slices.SortFunc(byName, func(a, b api.Request) int { return cmp.Compare(a.Name, b.Name) })
	drawn, _ := calendar.Draw(key, len(claims))
	return lists.Transform(claims, func(c Claim) int { return drawn[slices.Index(byName, c.Request)] })
}

// interleave returns the order of the elements of a list: of each so many places, some are for newcomers.
func interleave(of, places int, newcomers []bool) []int {
	waiting := map[bool][]int{}
	for i, is := range newcomers {
		waiting[is] = append(waiting[is], i)
	}
	var order []int
	for place := range len(newcomers) {
		turn := place%of < places
		if len(waiting[turn]) == 0 {
			turn = !turn
		}
		order = append(order, waiting[turn][0])
		waiting[turn] = waiting[turn][1:]
	}
	return order
}
