package priority_test

import (
	"fmt"
	"math"
	"slices"
	"strings"
	"testing"

	"turnround/api"
	"turnround/priority"
)

var (
	oddNumbers = []int{math.MinInt, math.MinInt + 1, -1, 0, 1, 2, 8, 16, 17, 64, 100, 101, 400, 8900, 20000, 20001, 99999, 100000, 999999999, 1000000000, 2147483646, 2147483647, math.MaxInt - 1, math.MaxInt}
	oddTexts   = []string{"", " ", "\n", "A", "x", "=", "<", "-", "seats", "class", "class \n", "pool\n", "by", "when", "class a when by\n", "\x00", "\xff\xfe", "\xe2\x82", "äö", strings.Repeat("a", 25), strings.Repeat("9", 20000), strings.Repeat(" ", 4096), strings.Repeat("class a\n", 512), strings.Repeat("=", 4096)}
)

func oddClaims() []priority.Claim {
	all := append(five(), priority.Claim{})
	for _, x := range badClaims() {
		all = append(all, x.value)
	}
	for i, n := range oddNumbers {
		s := oddTexts[i%len(oddTexts)]
		all = append(all, claim(s), claim("x", withDistance(n)), claim("x", withSeats(n)), claim("x", withPeriod(n, n, n)), claim("x", withPeriod(0, n, 127)),
			priority.Claim{Request: api.Request{Name: s, Carrier: s, Kind: s, Terminal: s, Partner: s, Link: s, Period: api.Period{From: n, To: n, Days: n}, Minute: n, Seats: n, Size: n, Noise: n}, Distance: n})
	}
	return all
}

func oddConditions() []priority.Test {
	all := []priority.Test{{}}
	for i, n := range oddNumbers {
		s := oddTexts[i%len(oddTexts)]
		all = append(all, when(s, s, n), when("seats", "=", n), when("days", ">", n), when("minute", "<", n), when("seats", s, 1), when(s, "=", 1))
	}
	return all
}

func oddPrograms() []priority.Program {
	all := append([]priority.Program{}, office(), longest(), priority.Program{})
	for _, x := range badPrograms() {
		all = append(all, x.value)
	}
	for i, n := range oddNumbers {
		s := oddTexts[i%len(oddTexts)]
		all = append(all, program(n, classes(3)...), sharing(program(0, classes(3)...), n, n), sharing(program(0, classes(3)...), 1, n),
			program(0, class(s, list(when(s, s, n)), up(s))), program(0, class("a", nil, up("seats"), down(s))))
	}
	for _, test := range oddConditions() {
		all = append(all, program(1, class("a", list(test))))
	}
	return all
}

// beside checks that a result beside an error is zero, and that the error is that of the first argument with one.
func beside(t *testing.T, what string, e api.Errno, zero bool, bad ...api.Errno) {
	t.Helper()
	is(t, what+" beside an error is zero", e == api.OK || zero, true)
	for _, want := range bad {
		if want != api.OK {
			is(t, what, e, want)
			return
		}
	}
}

// errorOfDraw returns the error of a key of lots.
func errorOfDraw(key int) api.Errno {
	if key < 1 || key > 2147483646 {
		return api.ErrRange
	}
	return api.OK
}

// P1: no programs, keys and claims make a function panic, and what stands beside an error is zero.
func TestOddOrders(t *testing.T) {
	try := func(p priority.Program, key int, l []priority.Claim) {
		t.Helper()
		bad := list(priority.CheckProgram(p), errorOfDraw(key))
		if len(l) == 1 {
			bad = append(bad, priority.CheckClaim(l[0]))
		}
		order, e := priority.Rank(p, key, l)
		beside(t, "Rank", e, len(order) == 0, bad...)
		is(t, "CheckRank", priority.CheckRank(p, key, l, order), e)
		why, e := priority.Why(p, key, l)
		beside(t, "Why", e, len(why) == 0, bad...)
		lots, e := priority.Lots(key, l)
		beside(t, "Lots", e, len(lots) == 0, bad[1:]...)
		is(t, "CheckLots", priority.CheckLots(key, l, lots), e)
		for _, n := range oddNumbers {
			better, e := priority.Better(p, key, l, n)
			beside(t, "Better", e, len(better) == 0, bad...)
			beside(t, "CheckRank", priority.CheckRank(p, key, l, list(n)), true, bad...)
			beside(t, "CheckLots", priority.CheckLots(key, l, list(n, n)), true, bad[1:]...)
		}
	}
	for _, p := range oddPrograms() {
		bad := priority.CheckProgram(p)
		try(p, 1, five())
		try(p, 0, nil)
		s, e := priority.Print(p)
		beside(t, "Print", e, s == "", bad)
		n, e := priority.ClassOf(p, claim("x"))
		beside(t, "ClassOf", e, n == 0, bad)
		n, e = priority.Compare(p, five()[0], claim("x"))
		beside(t, "Compare", e, n == 0, bad)
	}
	for _, c := range oddClaims() {
		try(office(), 2147483646, list(c))
		try(office(), 1, list(claim("other"), c, c))
		n, e := priority.ClassOf(office(), c)
		beside(t, "ClassOf", e, n == 0, priority.CheckClaim(c))
		n, e = priority.Compare(office(), c, claim("x", historic))
		beside(t, "Compare", e, n == 0, priority.CheckClaim(c))
	}
	for _, n := range oddNumbers {
		try(office(), n, five())
		try(office(), n, nil)
	}
}

// P1: no claims, facts, conditions and requests make a function panic.
func TestOddClaims(t *testing.T) {
	for _, c := range oddClaims() {
		bad := priority.CheckClaim(c)
		for _, s := range append(oddTexts, facts...) {
			n, e := priority.Fact(c, s)
			beside(t, "Fact", e, n == 0, bad)
		}
		for _, test := range oddConditions() {
			holds, e := priority.Holds(c, test)
			beside(t, "Holds", e, !holds, bad)
		}
		few, e := priority.Newcomer("ab", 8900, list(c.Request))
		beside(t, "Newcomer", e, !few)
	}
	for i, n := range oddNumbers {
		for _, s := range append(oddTexts, "ab") {
			few, e := priority.Newcomer(s, n, held(i, "r", "ab"))
			beside(t, "Newcomer", e, !few)
		}
		for _, m := range oddNumbers {
			order, e := priority.Interleave(n, m, flags("noon"))
			beside(t, "Interleave", e, len(order) == 0)
			is(t, fmt.Sprint("Interleave ", n, m), e == api.OK, n >= 1 && n <= 100 && m >= 0 && m <= n)
		}
	}
}

// P1: no strings make Parse panic.
func TestOddStrings(t *testing.T) {
	for _, a := range oddTexts {
		for _, b := range oddTexts {
			isAsParsed(t, a+b)
			isAsParsed(t, "class "+a+b+"\n")
			isAsParsed(t, "class k when "+a+b+"\n")
			isAsParsed(t, "class k by "+a+b+"\npool 0 share 0 of 1\n")
			isAsParsed(t, "class k\npool "+a+" share "+b+" of 1\n")
		}
	}
}

// P1: no lists of any length make a function panic.
func TestOddLists(t *testing.T) {
	for _, n := range []int{0, 1, 8, 9, 16, 17, 64, 65, 1000, 100000} {
		// want is the error of n empty elements, of which there may be only so many.
		want := func(most int, ofNone, ofOne api.Errno) api.Errno {
			switch {
			case n == 0:
				return ofNone
			case n > most:
				return api.ErrMany
			}
			return ofOne
		}
		is(t, "CheckProgram of classes", priority.CheckProgram(program(0, make([]priority.Class, n)...)), want(16, api.ErrEmpty, api.ErrName))
		is(t, "CheckProgram of conditions", priority.CheckProgram(program(0, class("a", make([]priority.Test, n)))), want(8, api.OK, api.ErrUnknown))
		is(t, "CheckProgram of keys", priority.CheckProgram(program(0, class("a", nil, make([]priority.Key, n)...))), want(8, api.OK, api.ErrUnknown))
		_, e := priority.Rank(office(), 1, make([]priority.Claim, n))
		is(t, "Rank", e, want(64, api.OK, api.ErrName))
		_, e = priority.Lots(1, make([]priority.Claim, n))
		is(t, "Lots", e, want(64, api.OK, api.ErrName))
		_, e = priority.Newcomer("ab", 0, make([]api.Request, n))
		is(t, "Newcomer", e, want(64, api.OK, api.ErrName))
		_, e = priority.Interleave(2, 1, make([]bool, n))
		is(t, "Interleave", e, want(64, api.OK, api.OK))
		is(t, "CheckRank", priority.CheckRank(office(), 1, nil, make([]int, n)), want(math.MaxInt, api.OK, api.ErrShape))
		is(t, "CheckLots", priority.CheckLots(1, nil, make([]int, n)), want(math.MaxInt, api.OK, api.ErrShape))
	}
}

// P1: the largest inputs are examined to their end.
func TestLargestInputs(t *testing.T) {
	p := longest()
	l := claims(64)
	is(t, "claims without a class", ok[int](t)(priority.ClassOf(p, l[63])), 16)
	isList(t, "Rank by lots", ok[[]int](t)(priority.Rank(p, 2147483646, l)), orderOf(p, 2147483646, l))
	for i := range l {
		l[i].Newcomer = i >= 32
	}
	isList(t, "Rank with a share", ok[[]int](t)(priority.Rank(sharing(p, 1, 2), 2147483646, l)), orderOf(sharing(p, 1, 2), 2147483646, l))
	is(t, "reasons", len(ok[[]string](t)(priority.Why(p, 1, l))), 63)
}

// everything calls all functions that have lists as arguments.
func everything(p priority.Program, l []priority.Claim, numbers []int, newcomers []bool, held []api.Request) {
	priority.CheckProgram(p)
	priority.Print(p)
	priority.ClassOf(p, claim("x"))
	priority.Compare(p, claim("x"), claim("y", historic))
	priority.Interleave(2, 1, newcomers)
	priority.Newcomer("ab", 8900, held)
	for _, key := range []int{1, 2, 2147483646} {
		priority.Lots(key, l)
		priority.CheckLots(key, l, numbers)
		priority.Rank(p, key, l)
		priority.Why(p, key, l)
		priority.CheckRank(p, key, l, numbers)
		priority.Better(p, key, l, 1)
	}
}

// Rules: arguments are not modified, nor is what stands behind a list.
func TestArgumentsStay(t *testing.T) {
	x := noise(62)
	p, l, numbers, newcomers := office(), x.someClaims(30), []int{}, flags("onnoonoonn")
	for i := range 30 {
		numbers = append(numbers, 29-i)
	}
	requests := append(held(5, "z", "ab"), held(5, "a", "cd")...)
	l0, numbers0, newcomers0, requests0 := slices.Clone(l), slices.Clone(numbers), slices.Clone(newcomers), slices.Clone(requests)
	everything(p, l, numbers, newcomers, requests)
	everything(p, l[:5], numbers[:5], newcomers[:5], requests[:5])
	everything(p, l[:0], numbers[:0], newcomers[:0], requests[:0])
	tests, keys := p.Classes[0].When, p.Classes[0].By
	everything(program(1, class("a", tests[:1], keys[:1]...)), l, numbers, newcomers, requests)
	everything(program(1, p.Classes[:2]...), l, numbers, newcomers, requests)
	isProgram(t, "program", p, office())
	isList(t, "claims", l, l0)
	isList(t, "numbers", numbers, numbers0)
	isList(t, "newcomers", newcomers, newcomers0)
	isList(t, "requests", requests, requests0)
}

// isFresh checks that a result does not change with another one of the same call.
func isFresh[T comparable](t *testing.T, what string, call func() ([]T, api.Errno)) {
	t.Helper()
	a, _ := call()
	b, _ := call()
	before := slices.Clone(b)
	is(t, what+" has elements", len(a) > 0, true)
	var zero T
	for i := range a {
		a[i] = zero
	}
	_ = append(a, zero)
	isList(t, what+" after another result was changed", b, before)
	again, _ := call()
	isList(t, what+" called again", again, before)
}

// Rules: results share no memory with arguments, or with each other.
func TestResultsShareNothing(t *testing.T) {
	isFresh(t, "Facts", func() ([]string, api.Errno) { return priority.Facts(), api.OK })
	isFresh(t, "Lots", func() ([]int, api.Errno) { return priority.Lots(2, five()) })
	isFresh(t, "Interleave", func() ([]int, api.Errno) { return priority.Interleave(2, 1, flags("onno")) })
	isFresh(t, "Rank", func() ([]int, api.Errno) { return priority.Rank(office(), 2, five()) })
	isFresh(t, "Why", func() ([]string, api.Errno) { return priority.Why(office(), 2, five()) })
	isFresh(t, "Better", func() ([]int, api.Errno) { return priority.Better(office(), 2, five(), 3) })
	parse := func() priority.Program {
		p, _, _ := priority.Parse(published)
		return p
	}
	for _, programOf := range list(priority.Default, parse) {
		for i := range office().Classes {
			p := programOf()
			c := &p.Classes[i]
			clear(c.When)
			clear(c.By)
			_, _ = append(c.When, priority.Test{}), append(c.By, priority.Key{})
			*c = office().Classes[i]
			isProgram(t, "the other lists of the program", p, office())
			isProgram(t, "the program called again", programOf(), office())
		}
	}
}
