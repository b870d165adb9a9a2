package allocate_test

import (
	"fmt"
	"math"
	"slices"
	"strings"
	"testing"

	"turnround/allocate"
	"turnround/api"
	"turnround/capacity"
)

var (
	names   = []string{"a", "Z", "q1", "A_9", strings.Repeat("x", 24)}
	noNames = []string{"-", "1a", "_a", "a-b", "a b", "a\n", "\x00", "\xff", "ä", "aé", strings.Repeat("a", 25)}

	noMinutes = []int{math.MinInt, -1, 1440, 9999, math.MaxInt}
	day2      = api.Period{From: 2, To: 2, Days: 127}
)

// bad is a value with an error.
type bad[T any] struct {
	what  string
	value T
	e     api.Errno
}

func is[T comparable](t *testing.T, what string, got, want T) {
	t.Helper()
	if got != want {
		t.Errorf("%s: got %v, want %v", what, got, want)
	}
}

// isList compares lists; nil and empty ones are equal.
func isList[T comparable](t *testing.T, what string, got, want []T) {
	t.Helper()
	if !slices.Equal(got, want) {
		t.Errorf("%s: got %v, want %v", what, got, want)
	}
}

// isReasons compares reasons; nil and empty lists are equal.
func isReasons(t *testing.T, what string, got, want []allocate.Reason) {
	t.Helper()
	if !slices.EqualFunc(got, want, equalReasons) {
		t.Errorf("%s: got %v, want %v", what, got, want)
	}
}

func equalReasons(a, b allocate.Reason) bool {
	same := slices.Equal(a.Holders, b.Holders)
	return same && a.Name == b.Name && [4]int{a.Minute, a.Other, a.Limit, a.Window} == [4]int{b.Minute, b.Other, b.Limit, b.Window}
}

// isComplaint compares complaints; nil and empty lists are equal.
func isComplaint(t *testing.T, what string, got, want allocate.Complaint) {
	t.Helper()
	if got.Index != want.Index || got.Minute != want.Minute || got.Other != want.Other || !slices.Equal(got.Blockers, want.Blockers) {
		t.Errorf("%s: got %v, want %v", what, got, want)
	}
}

// ok returns a result that is to be without an error.
func ok[T any](t *testing.T) func(T, api.Errno) T {
	return func(value T, e api.Errno) T {
		t.Helper()
		is(t, "error", e, api.OK)
		return value
	}
}

func list[T any](all ...T) []T { return all }

// changed returns a value with changes.
func changed[T any](x T, changes ...func(*T)) T {
	for _, change := range changes {
		change(&x)
	}
	return x
}

// wish is a wish of the chapter's examples, with changes.
func wish(name string, changes ...func(*allocate.Wish)) allocate.Wish {
	q := api.Request{Name: name, Carrier: "x", Kind: "A", Period: day2, Minute: 610}
	return changed(allocate.Wish{Request: q, Earliest: 580, Latest: 680, Step: 20}, changes...)
}

func with(change func(q *api.Request)) func(*allocate.Wish) {
	return func(w *allocate.Wish) { change(&w.Request) }
}

func of(carrier string) func(*allocate.Wish) {
	return with(func(q *api.Request) { q.Carrier = carrier })
}

func kind(kind string) func(*allocate.Wish) {
	return with(func(q *api.Request) { q.Kind = kind })
}

func in(terminal string) func(*allocate.Wish) {
	return with(func(q *api.Request) { q.Terminal = terminal })
}

func link(name string) func(*allocate.Wish) {
	return with(func(q *api.Request) { q.Link = name })
}

func on(from, to, mask int) func(*allocate.Wish) {
	return with(func(q *api.Request) { q.Period = api.Period{From: from, To: to, Days: mask} })
}

// at is for a minute, from the earliest to the latest one.
func at(minute, earliest, latest int) func(*allocate.Wish) {
	return func(w *allocate.Wish) { w.Request.Minute, w.Earliest, w.Latest = minute, earliest, latest }
}

// only is for a minute alone.
func only(minute int) func(*allocate.Wish) { return at(minute, minute, minute) }

func step(step int) func(*allocate.Wish) {
	return func(w *allocate.Wish) { w.Step = step }
}

// ground is for ground times.
func ground(least, most int) func(*allocate.Wish) {
	return func(w *allocate.Wish) { w.Least, w.Most = least, most }
}

// three has the wishes a, b and c of the chapter's examples.
func three() []allocate.Wish { return list(wish("a"), wish("b", of("y")), wish("c")) }

// pair has the linked wishes p and q of the chapter's examples, both with changes.
func pair(changes ...func(*allocate.Wish)) []allocate.Wish {
	return list(
		changed(wish("p", link("q"), at(610, 590, 630), ground(30, 60)), changes...),
		changed(wish("q", link("p"), kind("D"), at(650, 630, 670)), changes...),
	)
}

// wishes returns n wishes with the names w0, w1, ..
func wishes(n int) []allocate.Wish {
	var all []allocate.Wish
	for i := range n {
		all = append(all, wish(fmt.Sprint("w", i)))
	}
	return all
}

func granted(name string, minute int) allocate.Result {
	return allocate.Result{Name: name, Minute: minute, Granted: true}
}

func refused(name string) allocate.Result { return allocate.Result{Name: name} }

// results returns results of wishes at minutes; -1 refuses.
func results(l []allocate.Wish, minutes ...int) []allocate.Result {
	var all []allocate.Result
	for i, w := range l {
		if minutes[i] < 0 {
			all = append(all, refused(w.Request.Name))
		} else {
			all = append(all, granted(w.Request.Name, minutes[i]))
		}
	}
	return all
}

// refusals returns results of wishes that are all refused.
func refusals(l []allocate.Wish) []allocate.Result {
	return results(l, slices.Repeat(list(-1), len(l))...)
}

// hour is the limit of the chapter's examples, with changes.
func hour(changes ...func(*capacity.Limit)) capacity.Limit {
	return changed(capacity.Limit{Name: "hour", Kind: "T", Length: 60, Step: 60, From: 540, To: 660, Period: day2, Most: 1}, changes...)
}

func named(name string) func(*capacity.Limit) {
	return func(l *capacity.Limit) { l.Name = name }
}

func ofKind(kind string) func(*capacity.Limit) {
	return func(l *capacity.Limit) { l.Kind = kind }
}

func ofTerminal(terminal string) func(*capacity.Limit) {
	return func(l *capacity.Limit) { l.Terminal = terminal }
}

func lasting(length int) func(*capacity.Limit) {
	return func(l *capacity.Limit) { l.Length = length }
}

// every has windows at the multiples of a step, from one minute to another.
func every(step, from, to int) func(*capacity.Limit) {
	return func(l *capacity.Limit) { l.Step, l.From, l.To = step, from, to }
}

func onDays(from, to, mask int) func(*capacity.Limit) {
	return func(l *capacity.Limit) { l.Period = api.Period{From: from, To: to, Days: mask} }
}

func atMost(most int) func(*capacity.Limit) {
	return func(l *capacity.Limit) { l.Most = most }
}

// badPeriods has periods with each error, and with later errors beside it.
var badPeriods = []bad[api.Period]{
	{"no day", api.Period{From: -1, To: 10, Days: 1}, api.ErrRange},
	{"no last day", api.Period{From: 10, To: 100000, Days: 1}, api.ErrRange},
	{"the last day before the first one, and no mask", api.Period{From: 11, To: 10, Days: 0}, api.ErrOrder},
	{"a long one, and no mask", api.Period{From: 10, To: 411, Days: 0}, api.ErrLarge},
	{"no mask", api.Period{From: 10, To: 20, Days: 0}, api.ErrRange},
	{"a large mask", api.Period{From: 10, To: 20, Days: 128}, api.ErrRange},
}

// badWishes has wishes with each error by itself, and with later errors beside it.
func badWishes() []bad[allocate.Wish] {
	var all []bad[allocate.Wish]
	add := func(what string, e api.Errno, changes ...func(*allocate.Wish)) {
		all = append(all, bad[allocate.Wish]{what, wish("x", changes...), e})
	}
	late := func(w *allocate.Wish) { w.Step, w.Least, w.Most = 0, -1, -1 }
	for _, s := range append([]string{""}, noNames...) {
		add("name "+s, api.ErrName, with(func(q *api.Request) { q.Name = s }))
		add("name "+s+" and more", api.ErrName, with(func(q *api.Request) { q.Name, q.Kind = s, "" }), of(""), late)
		add("carrier "+s, api.ErrName, of(s))
		add("carrier "+s+" and more", api.ErrName, of(s), at(610, -1, 1440), late)
	}
	for _, s := range []string{"", "a", "T", "AD", "D ", "\x00"} {
		add("kind "+s, api.ErrKind, kind(s))
		add("kind "+s+" and more", api.ErrKind, kind(s), in("1"), of(""), late)
	}
	for _, s := range noNames {
		add("terminal "+s, api.ErrName, in(s))
		add("terminal "+s+" and more", api.ErrName, in(s), on(9, 8, 127), late)
		add("partner "+s, api.ErrName, with(func(q *api.Request) { q.Partner = s }))
		add("partner "+s+" and more", api.ErrName, with(func(q *api.Request) { q.Partner = s }), at(610, -1, 1440), late)
		add("link "+s, api.ErrName, link(s))
		add("link "+s+" and more", api.ErrName, link(s), at(610, -1, 1440), late)
	}
	for _, x := range badPeriods {
		add("period: "+x.what, x.e, with(func(q *api.Request) { q.Period = x.value }))
		add("period and more: "+x.what, x.e, with(func(q *api.Request) { q.Period, q.Minute = x.value, -1 }), of(""), late)
	}
	for _, n := range noMinutes {
		add(fmt.Sprint("minute ", n), api.ErrRange, with(func(q *api.Request) { q.Minute = n }))
		add(fmt.Sprint("minute and more ", n), api.ErrRange, with(func(q *api.Request) { q.Minute = n }), of(""), late)
		add(fmt.Sprint("earliest ", n), api.ErrRange, at(610, n, 680))
		add(fmt.Sprint("latest ", n), api.ErrRange, at(610, 580, n))
		add(fmt.Sprint("earliest and more ", n), api.ErrRange, at(610, n, 609), late)
		add(fmt.Sprint("latest and more ", n), api.ErrRange, at(610, 611, n), late)
	}
	for _, n := range []int{math.MinInt, -1, 1000, math.MaxInt} {
		add(fmt.Sprint("seats ", n), api.ErrRange, with(func(q *api.Request) { q.Seats, q.Carrier = n, "" }))
		add(fmt.Sprint("size ", n), api.ErrRange, with(func(q *api.Request) { q.Size, q.Carrier = n, "" }))
		add(fmt.Sprint("noise ", n), api.ErrRange, with(func(q *api.Request) { q.Noise, q.Carrier = n, "" }))
	}
	add("earliest above the minute", api.ErrOrder, at(610, 611, 680))
	add("latest below the minute", api.ErrOrder, at(610, 580, 609))
	add("earliest above the minute and more", api.ErrOrder, at(610, 1439, 0), late)
	add("latest below the minute and more", api.ErrOrder, at(610, 0, 0), late)
	for _, n := range []int{math.MinInt, -20, -1, 0, 121, math.MaxInt} {
		add(fmt.Sprint("step ", n), api.ErrRange, step(n))
		add(fmt.Sprint("step and more ", n), api.ErrRange, step(n), at(610, 0, 1439), ground(-1, -2))
	}
	add("97 candidates from the minute on", api.ErrLimit, at(610, 610, 706), step(1))
	add("97 candidates up to the minute", api.ErrLimit, at(610, 514, 610), step(1))
	add("97 candidates on both sides", api.ErrLimit, at(610, 610-48*7-6, 610+48*7), step(7))
	add("all minutes and more", api.ErrLimit, at(610, 0, 1439), step(1), ground(-1, -2))
	for _, n := range []int{math.MinInt, -1, 1441, math.MaxInt} {
		add(fmt.Sprint("least ", n), api.ErrRange, ground(n, 1440))
		add(fmt.Sprint("most ", n), api.ErrRange, ground(0, n))
		add(fmt.Sprint("least above most ", n), api.ErrRange, ground(1440, n))
	}
	add("least above most", api.ErrOrder, ground(1, 0))
	add("least above most at the edge", api.ErrOrder, ground(1440, 1439))
	return all
}

// badLists has lists of wishes with an error.
func badLists() []bad[[]allocate.Wish] {
	var all []bad[[]allocate.Wish]
	add := func(what string, e api.Errno, l ...allocate.Wish) {
		all = append(all, bad[[]allocate.Wish]{what, l, e})
	}
	for _, x := range badWishes() {
		add(x.what, x.e, x.value)
		add(x.what+" behind others", x.e, append(three(), x.value, wish(""))...)
		add(x.what+" behind a link", x.e, wish("a", link("b")), x.value)
	}
	a := wish("a")
	add("65 wishes", api.ErrMany, wishes(65)...)
	add("65 empty wishes", api.ErrMany, make([]allocate.Wish, 65)...)
	add("an empty wish", api.ErrName, allocate.Wish{})
	add("a name twice", api.ErrTwice, a, a)
	add("a name twice with other facts", api.ErrTwice, a, wish("b"), wish("a", of("y"), only(5)))
	add("a name twice at last", api.ErrTwice, append(wishes(63), wish("w0"))...)
	add("a name twice before a later error", api.ErrTwice, a, a, wish(""))
	add("an error and a name twice", api.ErrRange, a, wish("a", step(0)))
	add("an error before a name twice", api.ErrRange, a, wish("b", step(0)), a)
	add("a name twice and an unknown link", api.ErrTwice, wish("a", link("z")), wish("b"), wish("b"))

	d := kind("D")
	add("an unknown link", api.ErrUnknown, wish("a", link("b")))
	add("an unknown link behind others", api.ErrUnknown, append(pair(), wish("a", link("A")))...)
	add("an unknown link before a wrong one", api.ErrUnknown, wish("a", link("z")), wish("b", link("b")))
	add("a link to itself", api.ErrPair, wish("a", link("a")))
	add("a link to one without a link", api.ErrPair, wish("a", link("b")), wish("b", d))
	add("a link from one without a link", api.ErrPair, wish("b", d), wish("a", link("b")))
	add("a link to one with another link", api.ErrPair, wish("a", link("b")), wish("b", d, link("c")), wish("c", link("b")))
	add("a ring of links", api.ErrPair, wish("a", link("b")), wish("b", d, link("c")), wish("c", link("a")))
	add("two links to one", api.ErrPair, append(pair(), wish("r", link("q")))...)
	add("two arrivals", api.ErrPair, wish("a", link("b")), wish("b", link("a")))
	add("two departures", api.ErrPair, wish("a", d, link("b")), wish("b", d, link("a")))
	add("another first day", api.ErrPair, wish("a", link("b"), on(2, 5, 127)), wish("b", d, link("a"), on(3, 5, 127)))
	add("another last day", api.ErrPair, wish("a", link("b"), on(2, 5, 127)), wish("b", d, link("a"), on(2, 6, 127)))
	add("another mask with the same days", api.ErrPair, wish("a", link("b"), on(2, 2, 1)), wish("b", d, link("a"), on(2, 2, 127)))
	add("a wrong link before an unknown one", api.ErrPair, wish("a", link("a")), wish("b", link("z")))
	add("a wrong link of a later one", api.ErrUnknown, wish("b", d, link("z")), wish("a", link("b")))
	return all
}

// goodLists has lists of wishes on the edges of what is permitted.
func goodLists() [][]allocate.Wish {
	all := [][]allocate.Wish{nil, three(), pair(), wishes(64), append(wishes(62), pair()...), list(wish("a", kind("D")), wish("A"))}
	all = append(all,
		list(wish("a", only(0)), wish("b", only(1439)), wish("c", at(610, 0, 1439), step(120)), wish("d", at(0, 0, 1439), step(16)), wish("e", step(1), at(100, 5, 100)), wish("f", step(1), at(100, 100, 195))),
		list(wish("a", ground(0, 0)), wish("b", ground(0, 1440)), wish("c", ground(1440, 1440))),
		list(wish("a", on(0, 0, 1)), wish("b", on(99599, 99999, 127)), wish("c", on(0, 400, 64))),
		list(wish("a", with(func(q *api.Request) { q.Seats, q.Size, q.Noise = 999, 9, 99 }))),
		list(wish("q", link("a")), wish("a", kind("D"), link("q"))),
		list(pair()[1], wish("z"), pair()[0]),
	)
	for _, s := range names {
		all = append(all, list(wish(s, of(s), in(s), with(func(q *api.Request) { q.Partner = s })), wish("l", link("m")), wish("m", kind("D"), link("l"))))
	}
	return all
}

// outcome is wishes with results.
type outcome struct {
	l []allocate.Wish
	r []allocate.Result
}

// badOutcomes has wishes with results that have an error.
func badOutcomes() []bad[outcome] {
	var all []bad[outcome]
	add := func(what string, e api.Errno, l []allocate.Wish, r ...allocate.Result) {
		all = append(all, bad[outcome]{what, outcome{l, r}, e})
	}
	l, p := three(), pair()
	a, b, c := granted("a", 610), refused("b"), granted("c", 670)
	add("a result without wishes", api.ErrShape, nil, a)
	add("no results", api.ErrShape, l)
	add("two results of three", api.ErrShape, l, a, b)
	add("four results of three", api.ErrShape, l, a, b, c, c)
	add("wrong results, and too few", api.ErrShape, l, granted("", -1))
	add("many results", api.ErrShape, l, make([]allocate.Result, 1000)...)
	add("another name", api.ErrName, l, a, refused("c"), c)
	add("other names", api.ErrName, l, b, a, c)
	add("no name", api.ErrName, l, a, b, refused(""))
	add("another name and more", api.ErrName, l, a, granted("c", 5), granted("", 5))
	add("another name of a refused one and more", api.ErrName, l, a, allocate.Result{Name: "B", Minute: 5}, c)
	add("a state before another name", api.ErrState, l, a, allocate.Result{Name: "b", Minute: 5}, a)
	for _, n := range []int{math.MinInt, -1, 0, 550, 570, 579, 580, 600, 609, 611, 680, 681, 690, 710, 1440, 2050, math.MaxInt} {
		add(fmt.Sprint("granted at ", n), api.ErrOutside, l, a, granted("b", n), allocate.Result{Name: "c", Minute: 5})
	}
	for _, n := range []int{math.MinInt, -1, 1, 610, 1440, math.MaxInt} {
		add(fmt.Sprint("refused at ", n), api.ErrState, l, a, allocate.Result{Name: "b", Minute: n}, granted("", 5))
	}
	add("the arrival alone", api.ErrPair, p, granted("p", 610), refused("q"))
	add("the departure alone", api.ErrPair, p, refused("p"), granted("q", 650))
	add("a short ground time", api.ErrPair, p, granted("p", 610), granted("q", 630))
	add("a long ground time", api.ErrPair, p, granted("p", 590), granted("q", 670))
	add("no ground time", api.ErrPair, p, granted("p", 630), granted("q", 630))
	add("a departure before its arrival", api.ErrPair, list(wish("a", link("d"), ground(0, 1440)), wish("d", kind("D"), link("a"))), granted("a", 650), granted("d", 630))
	wide := list(wish("p", link("q"), ground(0, 1440)), wish("q", link("p"), kind("D")))
	add("the departure alone with any ground time", api.ErrPair, wide, refused("p"), granted("q", 610))
	add("the arrival alone with any ground time", api.ErrPair, wide, granted("p", 610), refused("q"))
	add("the departure alone, which leads", api.ErrPair, list(wide[1], wide[0]), granted("q", 610), refused("p"))
	add("a pair, and an error of another wish", api.ErrOutside, append(pair(), wish("z")), granted("p", 610), refused("q"), granted("z", 5))
	add("a pair apart", api.ErrPair, list(p[1], wish("z"), p[0]), granted("q", 630), granted("z", 610), granted("p", 610))
	add("a second pair", api.ErrPair, append(pair(), wish("v", link("u"), kind("D")), wish("u", link("v"))), refused("p"), refused("q"), granted("v", 610), refused("u"))
	return all
}

// badLimits has limits with an error.
func badLimits() []bad[[]capacity.Limit] {
	all := []bad[[]capacity.Limit]{
		{"33 empty limits", make([]capacity.Limit, 33), api.ErrMany},
		{"an empty limit", make([]capacity.Limit, 1), api.ErrName},
		{"no kind", list(hour(), hour(named("b"), ofKind(""))), api.ErrKind},
		{"no length", list(hour(lasting(0)), hour()), api.ErrRange},
		{"from above to", list(hour(every(1, 2, 1))), api.ErrOrder},
		{"no most", list(hour(atMost(-1))), api.ErrRange},
		{"twice", list(hour(), hour()), api.ErrTwice},
	}
	for _, x := range badPeriods {
		all = append(all, bad[[]capacity.Limit]{x.what, list(hour(func(l *capacity.Limit) { l.Period = x.value })), x.e})
	}
	return all
}

// everything are arguments of all functions.
type everything struct {
	limits  []capacity.Limit
	l       []allocate.Wish
	r       []allocate.Result
	reasons []allocate.Reason
	w       allocate.Wish
	index   int
}

// functions are those with lists of wishes, with what they examine.
var functions = []struct {
	name                  string
	limits, results, full bool
	call                  func(x everything) api.Errno
}{
	{"CheckWishes", false, false, false, func(x everything) api.Errno { return allocate.CheckWishes(x.l) }},
	{"Linked", false, false, false, func(x everything) api.Errno { _, e := allocate.Linked(x.l); return e }},
	{"Serve", true, false, false, func(x everything) api.Errno { _, e := allocate.Serve(x.limits, x.l); return e }},
	{"CheckAllocation", true, true, true, func(x everything) api.Errno { return allocate.CheckAllocation(x.limits, x.l, x.r) }},
	{"Placed", false, true, false, func(x everything) api.Errno { _, e := allocate.Placed(x.l, x.r); return e }},
	{"Reasons", true, true, true, func(x everything) api.Errno { _, e := allocate.Reasons(x.limits, x.l, x.r); return e }},
	{"CheckReasons", true, true, true, func(x everything) api.Errno { return allocate.CheckReasons(x.limits, x.l, x.r, x.reasons) }},
	{"Envy", true, true, true, func(x everything) api.Errno { _, e := allocate.Envy(x.limits, x.l, x.r); return e }},
	{"Waste", true, true, true, func(x everything) api.Errno { _, e := allocate.Waste(x.limits, x.l, x.r); return e }},
	{"Displacement", false, true, false, func(x everything) api.Errno { _, e := allocate.Displacement(x.l, x.r); return e }},
	{"Totals", false, true, false, func(x everything) api.Errno { _, e := allocate.Totals(x.l, x.r); return e }},
	{"Revise", true, true, true, func(x everything) api.Errno { _, e := allocate.Revise(x.limits, x.l, x.r, x.w); return e }},
	{"Withdraw", true, true, false, func(x everything) api.Errno { _, e := allocate.Withdraw(x.limits, x.l, x.r); return e }},
	{"Offers", true, true, true, func(x everything) api.Errno { _, e := allocate.Offers(x.limits, x.l, x.r, x.index); return e }},
}

// noise is a fixed sequence of numbers from 0 to n - 1 for inputs of many forms.
type noise uint32

func (x *noise) next(n int) int {
	*x = *x*1664525 + 1013904223
	return int(*x>>8) % n
}

// pick returns one of some values.
func pick[T any](x *noise, values ...T) T { return values[x.next(len(values))] }

// shuffle returns a list in another order.
func shuffle[T any](x *noise, l []T) []T {
	l = slices.Clone(l)
	for i := range l {
		j := x.next(i + 1)
		l[i], l[j] = l[j], l[i]
	}
	return l
}
