package allocate_test

import (
	"fmt"
	"math"
	"slices"
	"testing"

	"turnround/allocate"
	"turnround/api"
)

// P6.1: wishes have their errors by themselves, then those of their links.
func TestCheckWishes(t *testing.T) {
	for _, l := range goodLists() {
		is(t, fmt.Sprint("CheckWishes ", l), allocate.CheckWishes(l), api.OK)
	}
	for _, x := range badLists() {
		is(t, "CheckWishes: "+x.what, allocate.CheckWishes(x.value), x.e)
	}
}

// P6.1: the errors of a wish that stands alone.
func TestWishErrors(t *testing.T) {
	for _, x := range badWishes() {
		m, e := allocate.Candidates(x.value)
		is(t, "Candidates: "+x.what, e, x.e)
		isList(t, "Candidates beside an error", m, nil)
		for _, minute := range []int{610, -1} {
			movements, e := allocate.Movements(x.value, minute)
			is(t, "Movements: "+x.what, e, x.e)
			isList(t, "Movements beside an error", movements, nil)
		}
	}
	// A wish alone may have any link.
	m, e := allocate.Candidates(wish("a", link("a"), only(5)))
	is(t, "Candidates of a wish with a link", e, api.OK)
	isList(t, "Candidates of a wish with a link", m, list(5))
}

// P6.1: the candidates, the nearest ones first, and of two the earlier one.
func TestCandidates(t *testing.T) {
	for _, x := range []struct {
		w    allocate.Wish
		want []int
	}{
		{wish("a"), list(610, 590, 630, 650, 670)},
		{wish("a", only(0)), list(0)},
		{wish("a", only(1439)), list(1439)},
		{wish("a", at(610, 590, 630)), list(610, 590, 630)},
		{wish("a", at(610, 591, 629)), list(610)},
		{wish("a", at(610, 591, 630)), list(610, 630)},
		{wish("a", at(610, 590, 629)), list(610, 590)},
		{wish("a", at(610, 550, 610)), list(610, 590, 570, 550)},
		{wish("a", at(610, 610, 670)), list(610, 630, 650, 670)},
		{wish("a", at(610, 540, 645)), list(610, 590, 630, 570, 550)},
		{wish("a", at(3, 0, 5), step(1)), list(3, 2, 4, 1, 5, 0)},
		{wish("a", at(3, 0, 5), step(2)), list(3, 1, 5)},
		{wish("a", at(130, 0, 1439), step(120)), list(130, 10, 250, 370, 490, 610, 730, 850, 970, 1090, 1210, 1330)},
		{wish("a", at(1439, 1200, 1439), step(120)), list(1439, 1319)},
		{wish("a", at(1320, 1080, 1439), step(119)), list(1320, 1201, 1439, 1082)},
	} {
		isList(t, fmt.Sprint("Candidates ", x.w), ok[[]int](t)(allocate.Candidates(x.w)), x.want)
	}
	for _, w := range []allocate.Wish{wish("a", step(1), at(100, 5, 100)), wish("a", step(1), at(100, 100, 195)), wish("a", step(7), at(610, 610-47*7-6, 610+48*7+6))} {
		m := ok[[]int](t)(allocate.Candidates(w))
		is(t, "number of candidates", len(m), 96)
		isList(t, fmt.Sprint("Candidates ", w), m, candidatesOf(w))
	}
}

// P6.1: candidates as the definition says.
func TestCandidatesModel(t *testing.T) {
	x := noise(11)
	for range 3000 {
		minute := x.next(1440)
		w := wish("a", at(minute, x.next(minute+1), minute+x.next(1440-minute)), step(1+x.next(120)))
		m, e := allocate.Candidates(w)
		want := candidatesOf(w)
		if len(want) > 96 {
			is(t, fmt.Sprint("many candidates of ", w), e, api.ErrLimit)
			continue
		}
		is(t, "error", e, api.OK)
		isList(t, fmt.Sprint("Candidates ", w), m, want)
	}
}

// P6.1: the movements of a wish at one of its candidates, as those of its request.
func TestMovements(t *testing.T) {
	isList(t, "the example", ok[[]api.Movement](t)(allocate.Movements(wish("a"), 590)), list(api.Movement{Moment: 3470, Kind: "A", Name: "a"}))
	facts := with(func(q *api.Request) {
		q.Seats, q.Size, q.Noise, q.Carrier, q.Partner, q.Link = 180, 4, 12, "y", "far", "b"
	})
	w := wish("q1", kind("D"), in("t1"), on(0, 9, 96), facts)
	isList(t, "a weekend", ok[[]api.Movement](t)(allocate.Movements(w, 670)), list(
		api.Movement{Moment: 670, Kind: "D", Terminal: "t1", Seats: 180, Size: 4, Noise: 12, Name: "q1"},
		api.Movement{Moment: 1440 + 670, Kind: "D", Terminal: "t1", Seats: 180, Size: 4, Noise: 12, Name: "q1"},
		api.Movement{Moment: 7*1440 + 670, Kind: "D", Terminal: "t1", Seats: 180, Size: 4, Noise: 12, Name: "q1"},
		api.Movement{Moment: 8*1440 + 670, Kind: "D", Terminal: "t1", Seats: 180, Size: 4, Noise: 12, Name: "q1"},
	))
	isList(t, "the last moment", ok[[]api.Movement](t)(allocate.Movements(wish("a", on(99999, 99999, 127), only(1439)), 1439)), list(api.Movement{Moment: api.MaxMoment, Kind: "A", Name: "a"}))
	isList(t, "no days", ok[[]api.Movement](t)(allocate.Movements(wish("a", on(2, 2, 64)), 610)), nil)
	is(t, "401 days", len(ok[[]api.Movement](t)(allocate.Movements(wish("a", on(0, 400, 127)), 610))), 401)
	x := noise(12)
	for range 500 {
		w := x.someWish("a")
		minute := pick(&x, candidatesOf(w)...)
		isList(t, fmt.Sprint("Movements ", w), ok[[]api.Movement](t)(allocate.Movements(w, minute)), movementsOf(w, minute))
	}
}

// P6.1: there are no movements at other minutes.
func TestMovementsOutside(t *testing.T) {
	for _, minute := range []int{math.MinInt, math.MinInt + 1, -830, -1, 0, 570, 580, 589, 591, 600, 609, 611, 680, 690, 1439, 1440, 2050, math.MaxInt} {
		m, e := allocate.Movements(wish("a"), minute)
		is(t, fmt.Sprint("Movements at ", minute), e, api.ErrOutside)
		isList(t, "Movements beside an error", m, nil)
	}
	w := wish("a", at(610, 500, 700), step(7))
	for minute := range 1440 {
		_, e := allocate.Movements(w, minute)
		is(t, fmt.Sprint("a candidate ", minute), e == api.OK, slices.Contains(candidatesOf(w), minute))
	}
}

// P6.1: the indices of linked wishes.
func TestLinked(t *testing.T) {
	p := pair()
	for _, x := range []struct {
		what string
		l    []allocate.Wish
		want []int
	}{
		{"nothing", nil, nil},
		{"no links", three(), list(-1, -1, -1)},
		{"the example", p, list(1, 0)},
		{"the departure first", list(p[1], p[0]), list(1, 0)},
		{"apart", list(wish("a"), p[1], wish("b"), p[0], wish("c")), list(-1, 3, -1, 1, -1)},
		{"two pairs", list(p[0], wish("u", link("v")), p[1], wish("v", kind("D"), link("u"))), list(2, 3, 0, 1)},
		{"without days", list(wish("a", link("b"), on(2, 2, 64)), wish("b", kind("D"), link("a"), on(2, 2, 64))), list(1, 0)},
		{"with other facts", list(wish("a", link("b"), of("y"), in("t"), only(5)), wish("b", kind("D"), link("a"), only(3))), list(1, 0)},
	} {
		isList(t, "Linked: "+x.what, ok[[]int](t)(allocate.Linked(x.l)), x.want)
	}
	for _, x := range badLists() {
		l, e := allocate.Linked(x.value)
		is(t, "Linked: "+x.what, e, x.e)
		isList(t, "Linked beside an error", l, nil)
	}
	x := noise(13)
	for range 500 {
		s := x.someScene()
		want := slices.Repeat(list(-1), len(s.wishes))
		for _, unit := range unitsOf(s.wishes) {
			if len(unit) == 2 {
				want[unit[0]], want[unit[1]] = unit[1], unit[0]
			}
		}
		isList(t, fmt.Sprint("Linked ", s.wishes), ok[[]int](t)(allocate.Linked(s.wishes)), want)
	}
}
