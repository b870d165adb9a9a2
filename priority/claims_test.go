package priority_test

import (
	"fmt"
	"math"
	"slices"
	"strings"
	"testing"

	"turnround/api"
	"turnround/message"
	"turnround/priority"
)

// P5.1: the limits are those of the chapter.
func TestLimits(t *testing.T) {
	isList(t, "limits",
		list(priority.MaxClasses, priority.MaxTests, priority.MaxKeys, priority.MaxDistance, priority.MaxShare, priority.MaxKey, priority.NewcomerMax),
		list(16, 8, 8, 20000, 100, 2147483646, 5))
}

// P5.1: the errors of claims, in their order.
func TestCheckClaim(t *testing.T) {
	good := five()
	for _, s := range names {
		good = append(good, claim(s))
	}
	for _, n := range []int{0, 1, 19999, 20000} {
		good = append(good, claim("x", withDistance(n)))
	}
	good = append(good,
		claim("x", historic, retimed, newcomer, yearround),
		claim("x", retimed),
		claim("x", withPeriod(0, 0, 1)),
		claim("x", withPeriod(99599, 99999, 64)),
		claim("x", withRequest(func(q *api.Request) { q.Kind, q.Terminal, q.Link = "D", "t1", "y" })),
	)
	for _, c := range good {
		is(t, fmt.Sprint("CheckClaim of ", c), priority.CheckClaim(c), api.OK)
	}
	for _, x := range badClaims() {
		is(t, "CheckClaim: "+x.what, priority.CheckClaim(x.value), x.e)
		near := x.value
		near.Distance = 0
		if e := message.CheckRequest(x.value.Request); e != api.OK {
			is(t, "CheckClaim as CheckRequest: "+x.what, priority.CheckClaim(near), e)
		}
	}
}

// P5.1: the names of all facts, in their order.
func TestFacts(t *testing.T) {
	isList(t, "Facts", priority.Facts(), list("historic", "retimed", "newcomer", "yearround", "days", "seats", "size", "noise", "distance", "minute"))
}

// P5.1: the values of facts.
func TestFact(t *testing.T) {
	c := claim("x", withSeats(81), withDistance(902), withRequest(func(q *api.Request) { q.Size, q.Noise, q.Minute = 5, 73, 604 }))
	for _, x := range []struct {
		what string
		c    priority.Claim
		want []int
	}{
		{"without any", c, list(0, 0, 0, 0, 6, 81, 5, 73, 902, 604)},
		{"historic", changed(c, historic), list(1, 0, 0, 0, 6, 81, 5, 73, 902, 604)},
		{"retimed", changed(c, retimed), list(0, 1, 0, 0, 6, 81, 5, 73, 902, 604)},
		{"newcomer", changed(c, newcomer), list(0, 0, 1, 0, 6, 81, 5, 73, 902, 604)},
		{"yearround", changed(c, yearround), list(0, 0, 0, 1, 6, 81, 5, 73, 902, 604)},
		{"all", changed(c, historic, retimed, newcomer, yearround), list(1, 1, 1, 1, 6, 81, 5, 73, 902, 604)},
		{"the least", claim("x", withPeriod(0, 0, 1), withSeats(0), withDistance(0), withRequest(func(q *api.Request) { q.Size, q.Noise, q.Minute = 1, 0, 0 })), list(0, 0, 0, 0, 0, 0, 1, 0, 0, 0)},
		{"the greatest", claim("x", withPeriod(99599, 99999, 127), withSeats(999), withDistance(20000), withRequest(func(q *api.Request) { q.Size, q.Noise, q.Minute = 9, 99, 1439 })), list(0, 0, 0, 0, 401, 999, 9, 99, 20000, 1439)},
	} {
		for i, name := range facts {
			n, e := priority.Fact(x.c, name)
			is(t, "Fact "+name+": "+x.what, e, api.OK)
			is(t, "Fact "+name+": "+x.what, n, x.want[i])
		}
	}
	for _, x := range []struct{ from, to, mask, want int }{
		{0, 9, 96, 4}, {0, 9, 32, 2}, {0, 9, 64, 2}, {0, 9, 31, 6}, {5, 5, 127, 1}, {0, 0, 32, 1}, {0, 0, 95, 0}, {0, 400, 127, 401}, {0, 400, 1, 57},
	} {
		n, e := priority.Fact(claim("x", withPeriod(x.from, x.to, x.mask)), "days")
		is(t, fmt.Sprint("days of ", x), e, api.OK)
		is(t, fmt.Sprint("days of ", x), n, x.want)
	}
}

// P5.1: the errors of Fact, in their order.
func TestBadFacts(t *testing.T) {
	refused := func(what string, c priority.Claim, name string, e api.Errno) {
		t.Helper()
		n, gotE := priority.Fact(c, name)
		is(t, "Fact: "+what, gotE, e)
		is(t, "Fact: "+what, n, 0)
	}
	for _, s := range noFacts {
		refused(s[:min(len(s), 20)], claim("x"), s, api.ErrUnknown)
	}
	for _, s := range facts {
		refused("another letter "+s, claim("x"), strings.ToUpper(s), api.ErrUnknown)
	}
	for _, x := range badClaims() {
		refused(x.what, x.value, "seats", x.e)
		refused(x.what+" and more", x.value, "", x.e)
	}
}

// P5.1: a condition holds if the fact is equal to, less than, or greater than the value.
func TestHolds(t *testing.T) {
	c := claim("x", historic, yearround)
	for _, name := range facts {
		n := ok[int](t)(priority.Fact(c, name))
		for _, value := range []int{0, n - 1, n, n + 1, 999999999} {
			if value < 0 {
				continue
			}
			for op, want := range map[string]bool{"=": n == value, "<": n < value, ">": n > value} {
				got, e := priority.Holds(c, when(name, op, value))
				is(t, fmt.Sprint("Holds ", name, op, value), e, api.OK)
				is(t, fmt.Sprint("Holds ", name, op, value), got, want)
			}
		}
	}
	for _, x := range []struct {
		test priority.Test
		want bool
	}{
		{when("historic", "=", 1), true}, {when("historic", "=", 0), false}, {when("retimed", "=", 0), true}, {when("retimed", "<", 1), true},
		{when("historic", "<", 1), false}, {when("historic", ">", 0), true}, {when("historic", ">", 1), false}, {when("historic", "=", 2), false},
		{when("seats", "=", 100), true}, {when("seats", "<", 100), false}, {when("seats", "<", 101), true}, {when("seats", ">", 100), false}, {when("seats", ">", 99), true},
	} {
		got, e := priority.Holds(c, x.test)
		is(t, fmt.Sprint("Holds ", x.test), e, api.OK)
		is(t, fmt.Sprint("Holds ", x.test), got, x.want)
	}
}

// P5.1: the errors of Holds, in their order.
func TestBadConditions(t *testing.T) {
	refused := func(what string, c priority.Claim, test priority.Test, e api.Errno) {
		t.Helper()
		got, gotE := priority.Holds(c, test)
		is(t, "Holds: "+what, gotE, e)
		is(t, "Holds: "+what, got, false)
	}
	for _, x := range badTests() {
		refused(x.what, claim("x", historic), x.value, x.e)
	}
	for _, x := range badClaims() {
		refused(x.what, x.value, when("distance", "<", 999999999), x.e)
		refused(x.what+" and more", x.value, priority.Test{}, x.e)
	}
}

// held returns n requests of a carrier with names from a letter, on the days from 8900 to 8905.
func held(n int, letter, carrier string) []api.Request {
	var all []api.Request
	for i := range n {
		q := claim(fmt.Sprint(letter, i)).Request
		q.Carrier = carrier
		all = append(all, q)
	}
	return all
}

// P5.1: a newcomer has fewer than five movements on the day.
func TestNewcomer(t *testing.T) {
	weekend := func(q api.Request) api.Request {
		q.Period.Days = 96
		return q
	}
	four := held(4, "r", "ab")
	one := held(1, "s", "ab")[0]
	departing := one
	departing.Kind = "D"
	for _, x := range []struct {
		what    string
		carrier string
		day     int
		held    []api.Request
		want    bool
	}{
		{"nothing", "ab", 8900, nil, true},
		{"one", "ab", 8900, list(one), true},
		{"four", "ab", 8900, four, true},
		{"five", "ab", 8900, append(four[:4:4], one), false},
		{"five, one of them a departure", "ab", 8900, append(four[:4:4], departing), false},
		{"five, one of them first", "ab", 8900, append(list(one), four...), false},
		{"64", "ab", 8900, held(64, "r", "ab"), false},
		{"five on the last day", "ab", 8905, held(5, "r", "ab"), false},
		{"five on the day before", "ab", 8899, held(5, "r", "ab"), true},
		{"five on the day after", "ab", 8906, held(5, "r", "ab"), true},
		{"five far from the day 0", "ab", 0, held(5, "r", "ab"), true},
		{"five far from the last day", "ab", 99999, held(5, "r", "ab"), true},
		{"five of another carrier", "cd", 8900, held(5, "r", "ab"), true},
		{"five of the carrier in other letters", "AB", 8900, held(5, "r", "ab"), true},
		{"four and one of another carrier", "ab", 8900, append(four[:4:4], held(1, "s", "cd")...), true},
		{"five among others", "ab", 8900, slices.Concat(held(5, "t", "cd"), four, list(one), held(5, "u", "ef")), false},
		{"four and one on weekends, on Friday", "ab", 8903, append(four[:4:4], weekend(one)), true},
		{"four and one on weekends, on Saturday", "ab", 8904, append(four[:4:4], weekend(one)), false},
		{"four and one on weekends, on Sunday", "ab", 8905, append(four[:4:4], weekend(one)), false},
	} {
		got, e := priority.Newcomer(x.carrier, x.day, x.held)
		is(t, "Newcomer: "+x.what, e, api.OK)
		is(t, "Newcomer: "+x.what, got, x.want)
	}
}

// P5.1: the errors of Newcomer, in their order.
func TestBadNewcomers(t *testing.T) {
	refused := func(what, carrier string, day int, held []api.Request, e api.Errno) {
		t.Helper()
		got, gotE := priority.Newcomer(carrier, day, held)
		is(t, "Newcomer: "+what, gotE, e)
		is(t, "Newcomer: "+what, got, false)
	}
	for _, s := range noNames {
		refused("carrier "+s, s, 8900, nil, api.ErrName)
		refused("carrier "+s+" and more", s, -1, held(65, "r", "ab"), api.ErrName)
	}
	for _, n := range []int{math.MinInt, -1, 100000, math.MaxInt} {
		refused(fmt.Sprint("day ", n), "ab", n, nil, api.ErrRange)
		refused(fmt.Sprint("day ", n, " and more"), "ab", n, make([]api.Request, 2), api.ErrRange)
	}
	one := held(1, "r", "ab")[0]
	wrong := one
	wrong.Size = 0
	refused("65 requests", "ab", 8900, held(65, "r", "ab"), api.ErrMany)
	refused("65 empty requests", "ab", 8900, make([]api.Request, 65), api.ErrMany)
	refused("an empty request", "ab", 8900, make([]api.Request, 1), api.ErrName)
	refused("an error of another carrier", "cd", 8900, list(wrong), api.ErrRange)
	refused("twice", "ab", 8900, list(one, one), api.ErrTwice)
	refused("twice of another carrier", "cd", 8900, append(held(5, "r", "ab"), one), api.ErrTwice)
	refused("twice before a later error", "ab", 8900, list(one, one, api.Request{}), api.ErrTwice)
	refused("an error and twice", "ab", 8900, list(one, wrong), api.ErrRange)
	for _, x := range badClaims() {
		if e := message.CheckRequest(x.value.Request); e != api.OK {
			refused(x.what, "ab", 8900, list(one, x.value.Request, api.Request{}), e)
		}
	}
}

// P5.1: facts and conditions are those of the definition.
func TestFactsOfModel(t *testing.T) {
	x := noise(51)
	for range 300 {
		c := x.someClaims(1)[0]
		for _, name := range facts {
			n := ok[int](t)(priority.Fact(c, name))
			is(t, fmt.Sprint("Fact ", name, " of ", c), n, factOf(c, name))
			test := when(name, pick(&x, ops...), max(0, n-1+x.next(3)))
			is(t, fmt.Sprint("Holds ", test, " for ", c), ok[bool](t)(priority.Holds(c, test)), holds(c, test))
		}
	}
}
