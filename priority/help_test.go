package priority_test

import (
	"fmt"
	"math"
	"slices"
	"strings"
	"testing"

	"turnround/api"
	"turnround/priority"
)

const published = "class historic when historic=1 retimed=0 by days- seats-\nclass retimed when historic=1 by days- seats-\nclass yearround when yearround=1 by days- seats- distance-\nclass others by days- seats- distance-\npool 2 share 1 of 2\n"

var (
	names   = []string{"a", "Z", "q1", "A_9", strings.Repeat("x", 24)}
	noNames = []string{"", "-", "1a", "_a", "a-b", "a b", "a\n", "\x00", "\xff", "ä", "aé", strings.Repeat("a", 25)}

	facts   = []string{"historic", "retimed", "newcomer", "yearround", "days", "seats", "size", "noise", "distance", "minute"}
	noFacts = []string{"", " ", "day", "Days", "seat", "seatss", " seats", "seats ", "seats\x00", "h", "historic=1", "share", "class", "lot", "name", "\xff", "ä", strings.Repeat("seats", 1000)}
	ops     = []string{"=", "<", ">"}
	noOps   = []string{"", " ", "==", "<=", ">=", "=<", "!", "+", "-", "≤", "\x00", "\xff", "eq"}

	noDraws = []int{math.MinInt, -1, 0, 2147483647, 2147483648, math.MaxInt}
)

// bad is a value with an error.
type bad[T any] struct {
	what  string
	value T
	e     api.Errno
}

func is[T comparable](t *testing.T, what string, got, want T) {
	t.Helper()
	if got != want {
		t.Errorf("%s: got %v, want %v", what, got, want)
	}
}

// isList compares lists; nil and empty ones are equal.
func isList[T comparable](t *testing.T, what string, got, want []T) {
	t.Helper()
	if !slices.Equal(got, want) {
		t.Errorf("%s: got %v, want %v", what, got, want)
	}
}

// isProgram compares programs; nil and empty lists are equal.
func isProgram(t *testing.T, what string, got, want priority.Program) {
	t.Helper()
	is(t, what+": pool", [3]int{got.Pool, got.For, got.Of}, [3]int{want.Pool, want.For, want.Of})
	is(t, what+": number of classes", len(got.Classes), len(want.Classes))
	for i := range min(len(got.Classes), len(want.Classes)) {
		is(t, fmt.Sprint(what, ": name of the class ", i), got.Classes[i].Name, want.Classes[i].Name)
		isList(t, fmt.Sprint(what, ": conditions of the class ", i), got.Classes[i].When, want.Classes[i].When)
		isList(t, fmt.Sprint(what, ": keys of the class ", i), got.Classes[i].By, want.Classes[i].By)
	}
}

// ok returns a result that is to be without an error.
func ok[T any](t *testing.T) func(T, api.Errno) T {
	return func(value T, e api.Errno) T {
		t.Helper()
		is(t, "error", e, api.OK)
		return value
	}
}

func list[T any](all ...T) []T { return all }

// changed returns a value with changes.
func changed[T any](x T, changes ...func(*T)) T {
	for _, change := range changes {
		change(&x)
	}
	return x
}

// claim is a claim on six days without any fact, with changes.
func claim(name string, changes ...func(*priority.Claim)) priority.Claim {
	q := api.Request{
		Name: name, Carrier: "ab", Kind: "A", Partner: "far",
		Period: api.Period{From: 8900, To: 8905, Days: 127},
		Minute: 600, Seats: 100, Size: 4, Noise: 7,
	}
	return changed(priority.Claim{Request: q, Distance: 900}, changes...)
}

func historic(c *priority.Claim)  { c.Historic = true }
func retimed(c *priority.Claim)   { c.Retimed = true }
func newcomer(c *priority.Claim)  { c.Newcomer = true }
func yearround(c *priority.Claim) { c.Yearround = true }

func withSeats(seats int) func(*priority.Claim) {
	return func(c *priority.Claim) { c.Request.Seats = seats }
}

func withDistance(distance int) func(*priority.Claim) {
	return func(c *priority.Claim) { c.Distance = distance }
}

func withPeriod(from, to, mask int) func(*priority.Claim) {
	return func(c *priority.Claim) { c.Request.Period = api.Period{From: from, To: to, Days: mask} }
}

func withRequest(change func(q *api.Request)) func(*priority.Claim) {
	return func(c *priority.Claim) { change(&c.Request) }
}

// five has the claims of the chapter's examples: h, c, d, b and e.
func five() []priority.Claim {
	return list(
		claim("h", historic, withSeats(90)),
		claim("c", withSeats(180)),
		claim("d", newcomer, withSeats(150)),
		claim("b", newcomer, withSeats(100)),
		claim("e", withSeats(90)),
	)
}

// claims returns n claims with the names c0, c1, ..
func claims(n int) []priority.Claim {
	var all []priority.Claim
	for i := range n {
		all = append(all, claim(fmt.Sprint("c", i)))
	}
	return all
}

func when(fact, op string, value int) priority.Test {
	return priority.Test{Fact: fact, Op: op, Value: value}
}

func up(fact string) priority.Key   { return priority.Key{Fact: fact} }
func down(fact string) priority.Key { return priority.Key{Fact: fact, Down: true} }

// class is a class with conditions and keys.
func class(name string, tests []priority.Test, keys ...priority.Key) priority.Class {
	return priority.Class{Name: name, When: tests, By: keys}
}

// program is a program without a share.
func program(pool int, classes ...priority.Class) priority.Program {
	return priority.Program{Classes: classes, Pool: pool, Of: 1}
}

// sharing returns a program with a share of newcomers.
func sharing(p priority.Program, newcomers, of int) priority.Program {
	p.For, p.Of = newcomers, of
	return p
}

// office is the program of the chapter's examples.
func office() priority.Program {
	return sharing(program(2,
		class("historic", list(when("historic", "=", 1), when("retimed", "=", 0)), down("days"), down("seats")),
		class("retimed", list(when("historic", "=", 1)), down("days"), down("seats")),
		class("yearround", list(when("yearround", "=", 1)), down("days"), down("seats"), down("distance")),
		class("others", nil, down("days"), down("seats"), down("distance")),
	), 1, 2)
}

// classes returns n classes with the names k0, k1, ..
func classes(n int) []priority.Class {
	var all []priority.Class
	for i := range n {
		all = append(all, class(fmt.Sprint("k", i), nil))
	}
	return all
}

// badClaims has claims with each error, and with later errors beside it.
func badClaims() []bad[priority.Claim] {
	var all []bad[priority.Claim]
	add := func(what string, e api.Errno, changes ...func(*priority.Claim)) {
		all = append(all, bad[priority.Claim]{what, claim("x", changes...), e})
	}
	far := withDistance(-1)
	for _, s := range noNames {
		add("name "+s, api.ErrName, withRequest(func(q *api.Request) { q.Name = s }))
		add("carrier "+s+" and more", api.ErrName, withRequest(func(q *api.Request) { q.Carrier, q.Kind = s, "" }), far)
	}
	add("no kind", api.ErrKind, withRequest(func(q *api.Request) { q.Kind = "T" }), far)
	add("a link to itself", api.ErrPair, withRequest(func(q *api.Request) { q.Link = "x" }), far)
	add("no day", api.ErrRange, withPeriod(-1, 5, 127), far)
	add("a day before", api.ErrOrder, withPeriod(6, 5, 127), far)
	add("a long period", api.ErrLarge, withPeriod(0, 401, 127), far)
	add("no mask", api.ErrRange, withPeriod(0, 5, 0), far)
	add("no minute", api.ErrRange, withRequest(func(q *api.Request) { q.Minute = 1440 }))
	add("many seats", api.ErrRange, withSeats(1000))
	add("no size", api.ErrRange, withRequest(func(q *api.Request) { q.Size = 0 }))
	add("much noise", api.ErrRange, withRequest(func(q *api.Request) { q.Noise = 100 }))
	for _, n := range []int{math.MinInt, -1, 20001, math.MaxInt} {
		add(fmt.Sprint("distance ", n), api.ErrRange, withDistance(n))
	}
	return all
}

// badClaimLists has lists of claims with an error.
func badClaimLists() []bad[[]priority.Claim] {
	a, other := claim("a"), claim("other")
	far := claim("a", withDistance(20001))
	all := []bad[[]priority.Claim]{
		{"65 claims", claims(65), api.ErrMany},
		{"65 empty claims", make([]priority.Claim, 65), api.ErrMany},
		{"an empty claim", make([]priority.Claim, 1), api.ErrName},
		{"twice", list(a, a), api.ErrTwice},
		{"twice with other facts", list(a, other, claim("a", historic, withSeats(5))), api.ErrTwice},
		{"twice of other carriers", list(a, claim("a", withRequest(func(q *api.Request) { q.Carrier = "cd" }))), api.ErrTwice},
		{"twice at last", append(claims(63), claim("c0")), api.ErrTwice},
		{"twice before a later error", list(a, a, claim("")), api.ErrTwice},
		{"an error before twice", list(a, claim("b", withDistance(-1)), a), api.ErrRange},
		{"an error and twice", list(a, far), api.ErrRange},
		{"no name twice", list(claim(""), claim("")), api.ErrName},
	}
	for _, x := range badClaims() {
		all = append(all,
			bad[[]priority.Claim]{x.what, list(x.value), x.e},
			bad[[]priority.Claim]{x.what + " behind another one", list(other, x.value, claim("")), x.e},
		)
	}
	return all
}

// badTests has conditions with each error, and with later errors beside it.
func badTests() []bad[priority.Test] {
	var all []bad[priority.Test]
	add := func(what, fact, op string, value int, e api.Errno) {
		all = append(all, bad[priority.Test]{what, when(fact, op, value), e})
	}
	for _, s := range noFacts {
		add("fact "+s, s, "=", 1, api.ErrUnknown)
		add("fact "+s+" and more", s, "", -1, api.ErrUnknown)
	}
	for _, s := range noOps {
		add("operation "+s, "seats", s, 1, api.ErrKind)
		add("operation "+s+" and more", "seats", s, -1, api.ErrKind)
	}
	for _, n := range []int{math.MinInt, -1, 1000000000, math.MaxInt} {
		for _, op := range ops {
			add(fmt.Sprint("value ", op, n), "seats", op, n, api.ErrRange)
		}
	}
	return all
}

// badClasses has classes with each error, and with later errors beside it.
func badClasses() []bad[priority.Class] {
	var all []bad[priority.Class]
	add := func(what string, c priority.Class, e api.Errno) {
		all = append(all, bad[priority.Class]{what, c, e})
	}
	seats := when("seats", ">", 1)
	nine := slices.Repeat(list(seats), 9)
	var keys []priority.Key
	for _, s := range facts {
		keys = append(keys, up(s))
	}
	for _, s := range noNames {
		add("name "+s, class(s, nil), api.ErrName)
		add("name "+s+" and more", class(s, make([]priority.Test, 9), make([]priority.Key, 9)...), api.ErrName)
	}
	add("nine conditions", class("a", nine), api.ErrMany)
	add("nine empty conditions and more", class("a", make([]priority.Test, 9), up("")), api.ErrMany)
	for _, x := range badTests() {
		add(x.what, class("a", list(x.value)), x.e)
		add(x.what+" behind another one and more", class("a", list(seats, x.value, when("", "", -1)), make([]priority.Key, 9)...), x.e)
		add(x.what+" at last", class("a", append(nine[:7:7], x.value)), x.e)
	}
	add("nine keys", class("a", nil, keys[:9]...), api.ErrMany)
	add("ten keys", class("a", nil, keys...), api.ErrMany)
	add("nine empty keys", class("a", list(seats), make([]priority.Key, 9)...), api.ErrMany)
	for _, s := range noFacts {
		add("key "+s, class("a", nil, up(s)), api.ErrUnknown)
		add("key "+s+" behind others and more", class("a", list(seats), up("seats"), down(s), down("seats")), api.ErrUnknown)
		add("key "+s+" twice", class("a", nil, up(s), down(s)), api.ErrUnknown)
	}
	add("a key twice", class("a", nil, up("seats"), up("seats")), api.ErrTwice)
	add("a key in both directions", class("a", nil, up("seats"), up("days"), down("seats")), api.ErrTwice)
	add("a key twice before an unknown one", class("a", nil, up("seats"), up("seats"), up("")), api.ErrTwice)
	add("a key twice at last", class("a", nil, append(keys[:7:7], keys[0])...), api.ErrTwice)
	return all
}

// badPrograms has programs with an error.
func badPrograms() []bad[priority.Program] {
	var all []bad[priority.Program]
	add := func(what string, p priority.Program, e api.Errno) {
		all = append(all, bad[priority.Program]{what, p, e})
	}
	add("nothing", priority.Program{}, api.ErrEmpty)
	add("no classes", program(0), api.ErrEmpty)
	add("no classes and more", sharing(program(-1), -1, -1), api.ErrEmpty)
	add("17 classes", program(0, classes(17)...), api.ErrMany)
	add("17 empty classes", program(-1, make([]priority.Class, 17)...), api.ErrMany)
	for _, x := range badClasses() {
		add(x.what, program(0, x.value), x.e)
		add(x.what+" behind another class and more", program(-1, class("other", nil), x.value, class("", nil)), x.e)
	}
	a, b, wrong := class("a", nil), class("b", nil), class("a", nil, up(""))
	add("a class twice", program(0, a, a), api.ErrTwice)
	add("a class twice with other keys", program(-1, a, b, class("a", nil, up("seats"))), api.ErrTwice)
	add("a class twice before a later error", program(0, a, a, wrong), api.ErrTwice)
	add("a class twice at last", program(0, append(classes(15), class("k0", nil))...), api.ErrTwice)
	add("an error and twice", program(0, a, wrong), api.ErrUnknown)
	add("an error before twice", program(0, a, class("b", nil, up("")), a), api.ErrUnknown)
	for _, n := range []int{math.MinInt, -1, 3, 17, math.MaxInt} {
		add(fmt.Sprint("pool ", n), program(n, a, b), api.ErrRange)
	}
	add("pool behind 16 classes", program(17, classes(16)...), api.ErrRange)
	for _, n := range []int{math.MinInt, -1, 0, 101, math.MaxInt} {
		add(fmt.Sprint("of ", n), sharing(program(0, a), 0, n), api.ErrRange)
		add(fmt.Sprint("for and of ", n), sharing(program(0, a), n, n), api.ErrRange)
	}
	for _, n := range []int{math.MinInt, -1, 3, 100, math.MaxInt} {
		add(fmt.Sprint("for ", n), sharing(program(0, a), n, 2), api.ErrRange)
	}
	add("for more than 100", sharing(program(0, a), 101, 100), api.ErrRange)
	return all
}

// noise is a fixed sequence of numbers from 0 to n - 1 for inputs of many forms.
type noise uint32

func (x *noise) next(n int) int {
	*x = *x*1664525 + 1013904223
	return int(*x>>8) % n
}

// pick returns one of some values.
func pick[T any](x *noise, values ...T) T { return values[x.next(len(values))] }

// shuffle returns a list in another order.
func shuffle[T any](x *noise, l []T) []T {
	l = slices.Clone(l)
	for i := range l {
		j := x.next(i + 1)
		l[i], l[j] = l[j], l[i]
	}
	return l
}
