package priority_test

import (
	"fmt"
	"math"
	"slices"
	"testing"

	"turnround/api"
	"turnround/priority"
)

// ranked is an order of claims, and what puts each one behind the one before it.
type ranked struct {
	what   string
	p      priority.Program
	key    int
	claims []priority.Claim
	order  []int
	why    []string
}

// orders has claims with their orders.
func orders() []ranked {
	l := five()
	h, c, d, b, e := l[0], l[1], l[2], l[3], l[4]
	x, y, z := claim("x"), claim("y"), claim("z")
	keys := program(1, class("a", nil, up("minute"), down("seats"), up("size"), down("noise")))
	none := program(2, class("a", list(when("seats", "=", 5)), up("size")), class("b", list(when("seats", "=", 6))))
	pooled := sharing(program(1, none.Classes...), 1, 1)
	seats := func(n int, changes ...func(*priority.Claim)) priority.Claim {
		return claim(fmt.Sprint("s", n), append(changes, withSeats(n))...)
	}
	early := withRequest(func(q *api.Request) { q.Minute = 599 })
	small := withRequest(func(q *api.Request) { q.Size = 1 })
	loud := withRequest(func(q *api.Request) { q.Noise = 99 })
	return []ranked{
		{"nothing", office(), 1, nil, nil, nil},
		{"one", office(), 1, list(x), list(0), nil},
		{"the example", office(), 5, l, list(0, 2, 1, 3, 4), list("class", "share", "seats", "seats")},
		{"the example in another order", office(), 5, list(e, b, d, c, h), list(4, 2, 3, 1, 0), list("class", "share", "seats", "seats")},
		{"the base order", sharing(office(), 0, 2), 5, l, list(0, 1, 4, 2, 3), list("class", "seats", "share", "seats")},
		{"all places for newcomers", sharing(office(), 2, 2), 5, l, list(0, 2, 3, 1, 4), list("class", "seats", "share", "seats")},
		{"the last place of a hundred", sharing(office(), 99, 100), 5, l, list(0, 2, 3, 1, 4), list("class", "seats", "share", "seats")},
		{"no pool", changed(office(), func(p *priority.Program) { p.Pool = 4 }), 5, l, list(0, 1, 2, 3, 4), list("class", "seats", "seats", "seats")},
		{"the pool has all", changed(office(), func(p *priority.Program) { p.Pool = 0 }), 5, l, list(2, 0, 3, 1, 4), list("share", "class", "share", "seats")},
		{"the pool begins with the last class", changed(office(), func(p *priority.Program) { p.Pool = 3 }), 5, list(d, c, claim("r", yearround, withSeats(1)), b), list(2, 0, 1, 3), list("class", "share", "seats")},
		{"the pool begins before it", office(), 5, list(d, c, claim("r", yearround, withSeats(1)), b), list(0, 2, 3, 1), list("share", "class", "share")},
		{"the lot", office(), 1, list(x, y), list(0, 1), list("lot")},
		{"the lot of another key", office(), 2, list(x, y), list(1, 0), list("lot")},
		{"the lot of another key and order", office(), 2, list(y, x), list(0, 1), list("lot")},
		{"the lots of three", office(), 1, list(x, y, z), list(1, 2, 0), list("lot", "lot")},
		{"a key before the lots", office(), 1, list(x, y, changed(z, withSeats(999))), list(2, 1, 0), list("seats", "lot")},
		{"the first key that differs", keys, 1,
			list(changed(x, loud), changed(y, small), changed(z, early), claim("v", withSeats(101)), claim("w", early, loud)),
			list(4, 2, 3, 1, 0), list("noise", "minute", "seats", "size")},
		{"without a class", none, 1, list(seats(7), seats(6), seats(5), seats(8), seats(9)), list(2, 1, 0, 4, 3), list("class", "class", "lot", "lot")},
		{"without a class behind the pool", none, 1, list(seats(7), seats(6), seats(8, newcomer)), list(1, 0, 2), list("class", "lot")},
		{"a newcomer without a class in the pool", pooled, 1, list(seats(7), seats(6), seats(5), seats(8, newcomer)), list(2, 3, 1, 0), list("class", "share", "class")},
		{"newcomers before the pool", sharing(program(1, class("a", nil, down("seats"))), 1, 1), 1, list(seats(7), seats(9), seats(8, newcomer)), list(1, 2, 0), list("seats", "seats")},
		{"a place in three", sharing(program(0, class("a", nil, up("seats"))), 1, 3), 1,
			list(seats(1), seats(2), seats(3), seats(4), seats(5, newcomer), seats(6, newcomer)),
			list(4, 0, 1, 5, 2, 3), list("share", "seats", "seats", "share", "seats")},
	}
}

// P5.4: the order of claims.
func TestRank(t *testing.T) {
	for _, x := range orders() {
		order, e := priority.Rank(x.p, x.key, x.claims)
		is(t, "Rank: "+x.what, e, api.OK)
		isList(t, "Rank: "+x.what, order, x.order)
		is(t, "CheckRank: "+x.what, priority.CheckRank(x.p, x.key, x.claims, x.order), api.OK)
	}
}

// P5.4: what puts each claim of the order behind the one before it.
func TestWhy(t *testing.T) {
	for _, x := range orders() {
		why, e := priority.Why(x.p, x.key, x.claims)
		is(t, "Why: "+x.what, e, api.OK)
		isList(t, "Why: "+x.what, why, x.why)
	}
}

// P5.4: each fact is a reason.
func TestEachReason(t *testing.T) {
	for i, name := range facts {
		x := claim("x", historic, retimed, newcomer, yearround)
		less := list(
			func(c *priority.Claim) { c.Historic = false },
			func(c *priority.Claim) { c.Retimed = false },
			func(c *priority.Claim) { c.Newcomer = false },
			func(c *priority.Claim) { c.Yearround = false },
			withPeriod(8900, 8904, 127),
			withSeats(99),
			withRequest(func(q *api.Request) { q.Size-- }),
			withRequest(func(q *api.Request) { q.Noise-- }),
			withDistance(899),
			withRequest(func(q *api.Request) { q.Minute-- }),
		)[i]
		l := list(x, claim("y", historic, retimed, newcomer, yearround, less))
		for key := range 2 {
			upwards, downwards := program(1, class("a", nil, up(name))), program(1, class("a", nil, down(name)))
			isList(t, "Rank by "+name+"+", ok[[]int](t)(priority.Rank(upwards, 1+key, l)), list(1, 0))
			isList(t, "Rank by "+name+"-", ok[[]int](t)(priority.Rank(downwards, 1+key, l)), list(0, 1))
			isList(t, "Why by "+name+"+", ok[[]string](t)(priority.Why(upwards, 1+key, l)), list(name))
			isList(t, "Why by "+name+"-", ok[[]string](t)(priority.Why(downwards, 1+key, l)), list(name))
		}
	}
}

// P5.4: the claims that come before one in the order.
func TestBetter(t *testing.T) {
	for _, x := range orders() {
		for place, claim := range x.order {
			better, e := priority.Better(x.p, x.key, x.claims, claim)
			what := fmt.Sprint("Better than ", claim, ": ", x.what)
			is(t, what, e, api.OK)
			isList(t, what, better, x.order[:place])
		}
		for _, claim := range []int{math.MinInt, -1, len(x.claims), len(x.claims) + 1, math.MaxInt} {
			better, e := priority.Better(x.p, x.key, x.claims, claim)
			what := fmt.Sprint("Better than ", claim, ": ", x.what)
			is(t, what, e, api.ErrUnknown)
			isList(t, what, better, nil)
		}
	}
}

// P5.4: nothing but the order itself is accepted.
func TestCheckRank(t *testing.T) {
	right := list(0, 2, 1, 3, 4)
	for _, x := range []struct {
		what  string
		key   int
		order []int
		want  api.Errno
	}{
		{"the order", 5, right, api.OK},
		{"with another key that decides nothing", 6, right, api.OK},
		{"the base order", 5, list(0, 1, 2, 3, 4), api.ErrProof},
		{"the last two exchanged", 5, list(0, 2, 1, 4, 3), api.ErrProof},
		{"the first two exchanged", 5, list(2, 0, 1, 3, 4), api.ErrProof},
		{"places instead of claims", 5, list(0, 2, 1, 4, 4), api.ErrProof},
		{"one twice", 5, list(0, 2, 1, 3, 3), api.ErrProof},
		{"one that does not exist", 5, list(0, 2, 1, 3, 5), api.ErrProof},
		{"numbers far off", 5, list(math.MinInt, -1, 1, 3, math.MaxInt), api.ErrProof},
		{"none", 5, nil, api.ErrShape},
		{"too few", 5, right[:4], api.ErrShape},
		{"too many", 5, append(right[:5:5], 5), api.ErrShape},
		{"very many", 5, make([]int, 100000), api.ErrShape},
	} {
		is(t, "CheckRank: "+x.what, priority.CheckRank(office(), x.key, five(), x.order), x.want)
	}
	two := list(claim("x"), claim("y"))
	is(t, "CheckRank by lots", priority.CheckRank(office(), 2, two, list(1, 0)), api.OK)
	is(t, "CheckRank by the lots of another key", priority.CheckRank(office(), 1, two, list(1, 0)), api.ErrProof)
	is(t, "CheckRank of nothing", priority.CheckRank(office(), 1, nil, list(0)), api.ErrShape)
}

// P5.4: the errors of a program, a key and claims, in their order.
func TestBadOrders(t *testing.T) {
	refused := func(what string, p priority.Program, key int, claims []priority.Claim, e api.Errno) {
		t.Helper()
		order, gotE := priority.Rank(p, key, claims)
		is(t, "Rank: "+what, gotE, e)
		isList(t, "Rank: "+what, order, nil)
		why, gotE := priority.Why(p, key, claims)
		is(t, "Why: "+what, gotE, e)
		isList(t, "Why: "+what, why, nil)
		for _, claim := range []int{-1, 0} {
			better, gotE := priority.Better(p, key, claims, claim)
			is(t, "Better: "+what, gotE, e)
			isList(t, "Better: "+what, better, nil)
		}
		for _, order := range [][]int{nil, {0}, make([]int, len(claims))} {
			is(t, "CheckRank: "+what, priority.CheckRank(p, key, claims, order), e)
		}
	}
	for _, x := range badPrograms() {
		refused(x.what, x.value, 1, five(), x.e)
		refused(x.what+" and more", x.value, 0, claims(65), x.e)
	}
	for _, n := range noDraws {
		refused(fmt.Sprint("key ", n), office(), n, five(), api.ErrRange)
		refused(fmt.Sprint("key ", n, " and more"), office(), n, claims(65), api.ErrRange)
		refused(fmt.Sprint("key ", n, " of nothing"), office(), n, nil, api.ErrRange)
	}
	for _, x := range badClaimLists() {
		refused(x.what, office(), 1, x.value, x.e)
	}
}

// P5.4: orders and reasons are those of the definition.
func TestOrdersOfModel(t *testing.T) {
	x := noise(54)
	seen := map[string]int{}
	for n := range 1200 {
		p, l := x.someProgram(), x.someClaims(pick(&x, 2, 5, 9, x.next(20)))
		if n%3 == 0 {
			p = sharing(office(), p.For, p.Of)
		}
		key := 1 + x.next(2000000000)
		what := fmt.Sprint("of ", n, " with the key ", key, " ", p, l)
		order := orderOf(p, key, l)
		isList(t, "Rank "+what, ok[[]int](t)(priority.Rank(p, key, l)), order)
		is(t, "CheckRank "+what, priority.CheckRank(p, key, l, order), api.OK)
		why := ok[[]string](t)(priority.Why(p, key, l))
		isList(t, "Why "+what, why, reasonsOf(p, key, l))
		for _, reason := range why {
			seen[reason]++
		}
		if len(l) < 2 {
			continue
		}
		i := x.next(len(l) - 1)
		isList(t, "Better "+what, ok[[]int](t)(priority.Better(p, key, l, order[i])), order[:i])
		other := slices.Clone(order)
		other[i], other[i+1] = other[i+1], other[i]
		is(t, "CheckRank of another order "+what, priority.CheckRank(p, key, l, other), api.ErrProof)
	}
	for _, reason := range append(facts, "share", "class", "lot") {
		is(t, fmt.Sprint("there are some of each reason: ", reason, seen[reason]), seen[reason] > 10, true)
	}
}
