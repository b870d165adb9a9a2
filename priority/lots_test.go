package priority_test

import (
	"fmt"
	"math"
	"slices"
	"testing"

	"turnround/api"
	"turnround/priority"
)

// P5.3: lots belong to claims by their names, and are drawn by the key.
func TestLots(t *testing.T) {
	x, y, z := claim("x"), claim("y"), claim("z")
	for _, l := range []struct {
		what   string
		key    int
		claims []priority.Claim
		want   []int
	}{
		{"the example", 1, list(x, y), list(0, 1)},
		{"the example with another key", 2, list(x, y), list(1, 0)},
		{"given the other way round", 2, list(y, x), list(0, 1)},
		{"three by the key 1", 1, list(x, y, z), list(2, 0, 1)},
		{"three in another order", 1, list(z, x, y), list(1, 2, 0)},
		{"nothing", 1, nil, nil},
		{"one", 2147483646, list(x), list(0)},
		{"capitals before small letters", 1, list(claim("a"), claim("B"), claim("_a"[1:]+"_")), list(0, 2, 1)},
		{"a shorter name before a longer one", 1, list(claim("ab"), claim("a"), claim("a0")), list(1, 2, 0)},
		{"numbers by bytes", 1, list(claim("q9"), claim("q10"), claim("q1")), list(1, 0, 2)},
		{"other facts", 1, list(claim("y", historic, withSeats(999)), claim("x")), list(1, 0)},
	} {
		got, e := priority.Lots(l.key, l.claims)
		is(t, "Lots: "+l.what, e, api.OK)
		isList(t, "Lots: "+l.what, got, l.want)
		is(t, "CheckLots: "+l.what, priority.CheckLots(l.key, l.claims, l.want), api.OK)
	}
}

// P5.3: the errors of Lots and CheckLots, in their order.
func TestBadLots(t *testing.T) {
	refused := func(what string, key int, claims []priority.Claim, e api.Errno) {
		t.Helper()
		lots, gotE := priority.Lots(key, claims)
		is(t, "Lots: "+what, gotE, e)
		isList(t, "Lots: "+what, lots, nil)
		for _, lots := range [][]int{nil, {0}, make([]int, len(claims))} {
			is(t, "CheckLots: "+what, priority.CheckLots(key, claims, lots), e)
		}
	}
	for _, n := range noDraws {
		refused(fmt.Sprint("key ", n), n, nil, api.ErrRange)
		refused(fmt.Sprint("key ", n, " of five"), n, five(), api.ErrRange)
		refused(fmt.Sprint("key ", n, " and more"), n, claims(65), api.ErrRange)
	}
	for _, x := range badClaimLists() {
		refused(x.what, 1, x.value, x.e)
	}
}

// P5.3: nothing but the lots themselves is accepted.
func TestCheckLots(t *testing.T) {
	x, y, z := claim("x"), claim("y"), claim("z")
	for _, l := range []struct {
		what   string
		key    int
		claims []priority.Claim
		lots   []int
		want   api.Errno
	}{
		{"the other ones", 2, list(x, y), list(0, 1), api.ErrProof},
		{"those of another key", 1, list(x, y), list(1, 0), api.ErrProof},
		{"one twice", 2, list(x, y), list(1, 1), api.ErrProof},
		{"one that does not exist", 2, list(x, y), list(1, 2), api.ErrProof},
		{"a negative one", 2, list(x, y), list(1, -1), api.ErrProof},
		{"the last one is wrong", 1, list(x, y, z), list(2, 0, 0), api.ErrProof},
		{"the permutation the other way round", 1, list(x, y, z), list(1, 2, 0), api.ErrProof},
		{"too few", 2, list(x, y), list(1), api.ErrShape},
		{"none", 2, list(x, y), nil, api.ErrShape},
		{"too many", 2, list(x, y), list(1, 0, 0), api.ErrShape},
		{"some of nothing", 2, nil, list(0), api.ErrShape},
		{"very many", 2, list(x, y), make([]int, 100000), api.ErrShape},
		{"far off", 2, list(x), list(math.MaxInt), api.ErrProof},
	} {
		is(t, "CheckLots: "+l.what, priority.CheckLots(l.key, l.claims, l.lots), l.want)
	}
}

// flags returns a list of newcomers (n) and others (o).
func flags(s string) []bool {
	var all []bool
	for _, r := range s {
		all = append(all, r == 'n')
	}
	return all
}

// P5.3: of each so many places some are for newcomers, and what is left over gets the rest.
func TestInterleave(t *testing.T) {
	for _, x := range []struct {
		of, places int
		list       string
		want       []int
	}{
		{3, 2, "ononn", list(1, 3, 0, 4, 2)},
		{2, 1, "", nil},
		{1, 0, "", nil},
		{2, 1, "n", list(0)},
		{2, 1, "o", list(0)},
		{2, 1, "oonn", list(2, 0, 3, 1)},
		{2, 1, "nnoo", list(0, 2, 1, 3)},
		{2, 1, "nnnno", list(0, 4, 1, 2, 3)},
		{2, 1, "oooon", list(4, 0, 1, 2, 3)},
		{2, 1, "oooo", list(0, 1, 2, 3)},
		{2, 1, "nnnn", list(0, 1, 2, 3)},
		{1, 0, "noon", list(1, 2, 0, 3)},
		{1, 1, "onno", list(1, 2, 0, 3)},
		{2, 0, "noon", list(1, 2, 0, 3)},
		{2, 2, "onno", list(1, 2, 0, 3)},
		{100, 100, "onno", list(1, 2, 0, 3)},
		{100, 0, "noon", list(1, 2, 0, 3)},
		{3, 1, "oooonnn", list(4, 0, 1, 5, 2, 3, 6)},
		{3, 2, "oooonnn", list(4, 5, 0, 6, 1, 2, 3)},
		{3, 1, "nnnnoo", list(0, 4, 5, 1, 2, 3)},
		{4, 3, "ooonnnnn", list(3, 4, 5, 0, 6, 7, 1, 2)},
	} {
		got, e := priority.Interleave(x.of, x.places, flags(x.list))
		what := fmt.Sprint("Interleave of ", x.of, ", ", x.places, " for newcomers: ", x.list)
		is(t, what, e, api.OK)
		isList(t, what, got, x.want)
	}
	got := ok[[]int](t)(priority.Interleave(100, 1, append(make([]bool, 62), true, true)))
	is(t, "64 elements", len(got), 64)
	isList(t, "the first newcomer comes first, the other one last", list(got[0], got[1], got[63]), list(62, 0, 63))
}

// P5.3: the errors of Interleave, in their order.
func TestBadInterleave(t *testing.T) {
	many := make([]bool, 65)
	for _, x := range []struct {
		what       string
		of, places int
		list       []bool
		want       api.Errno
	}{
		{"of 0", 0, 0, nil, api.ErrRange},
		{"of 101", 101, 1, nil, api.ErrRange},
		{"of a negative number", -1, -1, nil, api.ErrRange},
		{"of the least number", math.MinInt, math.MinInt, flags("no"), api.ErrRange},
		{"of the greatest number", math.MaxInt, 1, flags("no"), api.ErrRange},
		{"negative places", 2, -1, flags("no"), api.ErrRange},
		{"more places than there are", 2, 3, flags("no"), api.ErrRange},
		{"101 places", 100, 101, nil, api.ErrRange},
		{"the most places", 2, math.MaxInt, nil, api.ErrRange},
		{"the least places", 2, math.MinInt, nil, api.ErrRange},
		{"of 0 and more", 0, 0, many, api.ErrRange},
		{"more places and more", 2, 3, many, api.ErrRange},
		{"65 elements", 2, 1, many, api.ErrMany},
		{"100000 elements", 2, 1, make([]bool, 100000), api.ErrMany},
	} {
		got, e := priority.Interleave(x.of, x.places, x.list)
		is(t, "Interleave: "+x.what, e, x.want)
		isList(t, "Interleave: "+x.what, got, nil)
	}
}

// P5.3: lots and shares are those of the definition.
func TestLotsOfModel(t *testing.T) {
	x := noise(53)
	for range 400 {
		l := x.someClaims(pick(&x, 0, 1, 2, 3, 64, x.next(65)))
		key := pick(&x, 1, 2, 2147483646, 2147483645, 1+x.next(2000000000))
		what := fmt.Sprint("with the key ", key, " of ", l)
		want := lotsOf(key, l)
		isList(t, "Lots "+what, ok[[]int](t)(priority.Lots(key, l)), want)
		is(t, "CheckLots "+what, priority.CheckLots(key, l, want), api.OK)
		if len(l) > 0 {
			other := slices.Clone(want)
			other[x.next(len(l))]++
			is(t, "CheckLots of other lots "+what, priority.CheckLots(key, l, other), api.ErrProof)
		}
		of := pick(&x, 1, 2, 3, 5, 100, 1+x.next(100))
		places := x.next(of + 1)
		var newcomers []bool
		for _, c := range l {
			newcomers = append(newcomers, c.Newcomer)
		}
		isList(t, fmt.Sprint("Interleave of ", of, places, newcomers), ok[[]int](t)(priority.Interleave(of, places, newcomers)), interleaved(of, places, newcomers))
	}
}
