package trade_test

import (
	"fmt"
	"math"
	"slices"
	"strings"
	"testing"

	"turnround/api"
	"turnround/capacity"
	"turnround/trade"
)

var (
	names   = []string{"a", "Z", "q1", "A_9", strings.Repeat("x", 24)}
	noNames = []string{"", "-", "1a", "_a", "a-b", "a b", "a\n", "\x00", "\xff", "ä", "aé", strings.Repeat("a", 25)}

	noDays    = []int{math.MinInt, -1, 100000, math.MaxInt}
	noMinutes = []int{math.MinInt, -1, 1440, 9999, math.MaxInt}
	noRanks   = []int{math.MinInt, -1, 1000000000, math.MaxInt}

	ten = api.Period{From: 8900, To: 8909, Days: 127}
)

// bad is a value with an error.
type bad[T any] struct {
	what  string
	value T
	e     api.Errno
}

func is[T comparable](t *testing.T, what string, got, want T) {
	t.Helper()
	if got != want {
		t.Errorf("%s: got %v, want %v", what, got, want)
	}
}

// isList compares lists; nil and empty ones are equal.
func isList[T comparable](t *testing.T, what string, got, want []T) {
	t.Helper()
	if !slices.Equal(got, want) {
		t.Errorf("%s: got %v, want %v", what, got, want)
	}
}

// isBook compares books; nil and empty lists are equal.
func isBook(t *testing.T, what string, got, want trade.Book) {
	t.Helper()
	if !equalBooks(got, want) {
		t.Errorf("%s: got %v, want %v", what, got, want)
	}
}

func equalBooks(a, b trade.Book) bool {
	return slices.EqualFunc(a.Slots, b.Slots, equalSlots) && slices.Equal(a.Waiting, b.Waiting)
}

func equalSlots(a, b trade.Slot) bool {
	return a.Request == b.Request && a.Holder == b.Holder && slices.Equal(a.Leases, b.Leases) && slices.Equal(a.Shares, b.Shares)
}

// ok returns a result that is to be without an error.
func ok[T any](t *testing.T) func(T, api.Errno) T {
	return func(value T, e api.Errno) T {
		t.Helper()
		is(t, "error", e, api.OK)
		return value
	}
}

func list[T any](all ...T) []T { return all }

// changed returns a value with changes.
func changed[T any](x T, changes ...func(*T)) T {
	for _, change := range changes {
		change(&x)
	}
	return x
}

// request is a request of the chapter's examples, with changes.
func request(name, carrier string, minute int, changes ...func(*api.Request)) api.Request {
	q := api.Request{Name: name, Carrier: carrier, Kind: "A", Partner: "far", Period: ten, Minute: minute, Seats: 100, Size: 4}
	return changed(q, changes...)
}

func on(from, to, mask int) func(*api.Request) {
	return func(q *api.Request) { q.Period = api.Period{From: from, To: to, Days: mask} }
}

func kind(kind string) func(*api.Request) {
	return func(q *api.Request) { q.Kind = kind }
}

func in(terminal string) func(*api.Request) {
	return func(q *api.Request) { q.Terminal = terminal }
}

func link(name string) func(*api.Request) {
	return func(q *api.Request) { q.Link = name }
}

// r is the request r of the chapter's examples.
func r() api.Request { return request("r", "ef", 620) }

// slot is a request that its carrier holds, with changes.
func slot(q api.Request, changes ...func(*trade.Slot)) trade.Slot {
	return changed(trade.Slot{Request: q, Holder: q.Carrier}, changes...)
}

// p is the slot p of the chapter's examples, with changes.
func p(changes ...func(*trade.Slot)) trade.Slot { return slot(request("p", "ab", 600), changes...) }

// q is the slot q of the chapter's examples, with changes.
func q(changes ...func(*trade.Slot)) trade.Slot { return slot(request("q", "cd", 610), changes...) }

// s is the slot s of the chapter's examples, with changes.
func s(changes ...func(*trade.Slot)) trade.Slot { return slot(request("s", "ef", 700), changes...) }

func held(carrier string) func(*trade.Slot) {
	return func(s *trade.Slot) { s.Holder = carrier }
}

func leased(leases ...trade.Lease) func(*trade.Slot) {
	return func(s *trade.Slot) { s.Leases = leases }
}

func shared(carriers ...string) func(*trade.Slot) {
	return func(s *trade.Slot) { s.Shares = carriers }
}

// asked is for the request of a slot.
func asked(changes ...func(*api.Request)) func(*trade.Slot) {
	return func(s *trade.Slot) { s.Request = changed(s.Request, changes...) }
}

func lease(carrier string, from, to int) trade.Lease {
	return trade.Lease{Carrier: carrier, From: from, To: to}
}

func wish(q api.Request, rank int) trade.Wish { return trade.Wish{Request: q, Rank: rank} }

// book has slots, and nobody waits.
func book(slots ...trade.Slot) trade.Book { return trade.Book{Slots: slots} }

// waiting is a book in which wishes wait.
func waiting(b trade.Book, wishes ...trade.Wish) trade.Book {
	b.Waiting = wishes
	return b
}

// slots returns n slots with the names n0, n1, .., each one at another minute.
func slots(n int) []trade.Slot {
	var all []trade.Slot
	for i := range n {
		all = append(all, slot(request(fmt.Sprint("n", i), "ab", i)))
	}
	return all
}

// wishes returns n wishes with the names w0, w1, .. and ascending ranks.
func wishes(n int) []trade.Wish {
	var all []trade.Wish
	for i := range n {
		all = append(all, wish(request(fmt.Sprint("w", i), "ab", i), i))
	}
	return all
}

// hour is the limit of the chapter's examples, with changes.
func hour(changes ...func(*capacity.Limit)) capacity.Limit {
	days := api.Period{From: 8900, To: 8999, Days: 127}
	return changed(capacity.Limit{Name: "hour", Kind: "T", Length: 60, Step: 60, From: 0, To: 1380, Period: days, Most: 2}, changes...)
}

func named(name string) func(*capacity.Limit) {
	return func(l *capacity.Limit) { l.Name = name }
}

func ofKind(kind string) func(*capacity.Limit) {
	return func(l *capacity.Limit) { l.Kind = kind }
}

func ofTerminal(terminal string) func(*capacity.Limit) {
	return func(l *capacity.Limit) { l.Terminal = terminal }
}

// every has windows at the multiples of a step, from one minute to another.
func every(step, from, to int) func(*capacity.Limit) {
	return func(l *capacity.Limit) { l.Step, l.From, l.To = step, from, to }
}

func lasting(length int) func(*capacity.Limit) {
	return func(l *capacity.Limit) { l.Length = length }
}

func onDays(from, to, mask int) func(*capacity.Limit) {
	return func(l *capacity.Limit) { l.Period = api.Period{From: from, To: to, Days: mask} }
}

func atMost(most int) func(*capacity.Limit) {
	return func(l *capacity.Limit) { l.Most = most }
}

// badPeriods has periods with each error, and with later errors beside it.
var badPeriods = []bad[api.Period]{
	{"no day", api.Period{From: -1, To: 10, Days: 1}, api.ErrRange},
	{"no last day", api.Period{From: 10, To: 100000, Days: 1}, api.ErrRange},
	{"the last day before the first one, and no mask", api.Period{From: 11, To: 10, Days: 0}, api.ErrOrder},
	{"a long one, and no mask", api.Period{From: 10, To: 411, Days: 0}, api.ErrLarge},
	{"no mask", api.Period{From: 10, To: 20, Days: 0}, api.ErrRange},
	{"a large mask", api.Period{From: 10, To: 20, Days: 128}, api.ErrRange},
}

// badRequests has requests with each error, and with later errors beside it; the last error is that they have no day.
func badRequests() []bad[api.Request] {
	var all []bad[api.Request]
	add := func(what string, e api.Errno, changes ...func(*api.Request)) {
		all = append(all, bad[api.Request]{what, request("x", "ab", 600, changes...), e})
	}
	empty := on(8900, 8900, 64)
	for _, s := range noNames {
		add("name "+s, api.ErrName, func(q *api.Request) { q.Name = s }, empty)
		add("carrier "+s, api.ErrName, func(q *api.Request) { q.Carrier = s }, empty)
		add("partner "+s, api.ErrName, func(q *api.Request) { q.Partner = s }, empty)
		if s != "" {
			add("terminal "+s, api.ErrName, in(s), kind(""))
			add("link "+s, api.ErrName, link(s), kind(""))
		}
	}
	for _, s := range []string{"", "a", "T", "AD", "\x00"} {
		add("kind "+s, api.ErrKind, kind(s), link("x"))
	}
	add("a link to itself", api.ErrPair, link("x"), on(-1, 0, 0))
	for _, x := range badPeriods {
		add("period: "+x.what, x.e, func(q *api.Request) { q.Period, q.Minute = x.value, -1 })
	}
	for _, n := range noMinutes {
		add(fmt.Sprint("minute ", n), api.ErrRange, func(q *api.Request) { q.Minute = n }, empty)
	}
	for _, n := range []int{-1, 1000} {
		add(fmt.Sprint("seats ", n), api.ErrRange, func(q *api.Request) { q.Seats = n }, empty)
	}
	for _, n := range []int{-1, 0, 10} {
		add(fmt.Sprint("size ", n), api.ErrRange, func(q *api.Request) { q.Size = n }, empty)
	}
	for _, n := range []int{-1, 100} {
		add(fmt.Sprint("noise ", n), api.ErrRange, func(q *api.Request) { q.Noise = n }, empty)
	}
	add("no day", api.ErrEmpty, empty)
	add("no day of six", api.ErrEmpty, on(8900, 8905, 1))
	return all
}

// goodRequests has requests with the name x on the edges of what is permitted.
func goodRequests() []api.Request {
	all := list(
		request("x", "ab", 0), request("x", "x", 1439), request("x", "ab", 600, kind("D")), request("x", "ab", 600, link("y")),
		request("x", "ab", 600, on(8900, 8900, 2)), request("x", "ab", 600, on(8900, 8906, 1)), request("x", "ab", 600, on(0, 400, 127)), request("x", "ab", 600, on(99599, 99999, 1)),
		request("x", "ab", 600, func(q *api.Request) { q.Seats, q.Size, q.Noise = 0, 1, 0 }),
		request("x", "ab", 600, func(q *api.Request) { q.Seats, q.Size, q.Noise = 999, 9, 99 }),
	)
	for _, s := range names {
		all = append(all, request("x", s, 600, in(s), link(s), func(q *api.Request) { q.Partner = s }))
	}
	return all
}

// badLeases has leases with each error by itself, and with later errors beside it.
func badLeases() []bad[trade.Lease] {
	var all []bad[trade.Lease]
	add := func(what string, l trade.Lease, e api.Errno) {
		all = append(all, bad[trade.Lease]{what, l, e})
	}
	for _, s := range noNames {
		add("lease of "+s, lease(s, 8902, 8904), api.ErrName)
		add("lease of and more"+s, lease(s, -1, -2), api.ErrName)
	}
	for _, n := range noDays {
		add(fmt.Sprint("lease from ", n), lease("gh", n, 8904), api.ErrRange)
		add(fmt.Sprint("lease to ", n), lease("gh", 8902, n), api.ErrRange)
		add(fmt.Sprint("lease from and to ", n), lease("ab", n, n), api.ErrRange)
	}
	add("lease that ends before it begins", lease("gh", 8903, 8902), api.ErrOrder)
	add("lease that ends long before it begins", lease("ab", 99999, 0), api.ErrOrder)
	return all
}

// badSlots has slots with each error, and with later errors beside it.
func badSlots() []bad[trade.Slot] {
	var all []bad[trade.Slot]
	add := func(what string, e api.Errno, changes ...func(*trade.Slot)) {
		all = append(all, bad[trade.Slot]{what, p(changes...), e})
	}
	late := func(s *trade.Slot) {
		s.Leases = append(slices.Clone(s.Leases), make([]trade.Lease, 9-len(s.Leases))...)
	}
	manyShares := shared("a", "b", "c", "d", "e")
	for _, x := range badRequests() {
		set := func(s *trade.Slot) { s.Request = x.value }
		add(x.what, x.e, set)
		add(x.what+" and more", x.e, set, held("-"), late, manyShares)
	}
	for _, s := range noNames {
		add("holder "+s, api.ErrName, held(s))
		add("holder and more "+s, api.ErrName, held(s), late, manyShares)
	}
	add("nine leases", api.ErrMany, late, manyShares)
	add("nine leases of one day", api.ErrMany, leased(days("gh", 8900, 8909)[:9]...))
	first := lease("gh", 8900, 8901)
	for _, x := range badLeases() {
		add(x.what, x.e, leased(x.value))
		add(x.what+" behind another one", x.e, leased(first, x.value, lease("", 0, 0)), manyShares)
	}
	for _, l := range list(lease("gh", 8899, 8904), lease("gh", 8904, 8910), lease("gh", 0, 99999), lease("gh", 0, 0), lease("gh", 8910, 8910), lease("gh", 8899, 8899), lease("ab", 8899, 8899)) {
		add(fmt.Sprint("outside ", l), api.ErrOutside, leased(l))
		add(fmt.Sprint("outside behind another one ", l), api.ErrOutside, leased(first, l, first), manyShares)
	}
	add("leased to the holder", api.ErrHolder, leased(lease("ab", 8902, 8904)))
	add("leased to the holder, and twice", api.ErrHolder, leased(first, lease("ab", 8901, 8904)), manyShares)
	add("leased to another holder", api.ErrHolder, held("gh"), leased(first))
	add("two leases of one day", api.ErrClash, leased(first, lease("ef", 8901, 8902)), manyShares)
	add("two leases of the same days", api.ErrClash, leased(first, first))
	add("leases that descend", api.ErrClash, leased(lease("ef", 8903, 8904), first))
	add("the second lease of three", api.ErrClash, leased(first, lease("ef", 8900, 8900), lease("", 0, 0)))
	add("the third lease of three", api.ErrClash, leased(first, lease("ef", 8905, 8906), lease("gh", 8904, 8904)))
	add("five shares", api.ErrMany, manyShares)
	add("five shares without a name", api.ErrMany, shared(make([]string, 5)...))
	for _, s := range noNames {
		add("share "+s, api.ErrName, shared("ef", s, "ab", "ef"))
	}
	add("shared with the holder", api.ErrHolder, shared("ef", "ab", "ef", ""))
	add("shared with the holder twice", api.ErrHolder, shared("ab", "ab"))
	add("shared twice", api.ErrTwice, shared("ef", "gh", "ef", ""))
	add("shared twice in a row", api.ErrTwice, shared("ef", "ef"))
	return all
}

// days returns leases of one day each.
func days(carrier string, from, to int) []trade.Lease {
	var all []trade.Lease
	for day := from; day <= to; day++ {
		all = append(all, lease(carrier, day, day))
	}
	return all
}

// goodSlots has slots on the edges of what is permitted.
func goodSlots() []trade.Slot {
	all := list(
		p(held("cd")), p(shared("c", "d", "e", "f")), p(shared("ef", "Ef")), p(held("x"), shared("ab")),
		p(leased(lease("gh", 8900, 8909))), p(leased(lease("gh", 8900, 8900), lease("gh", 8909, 8909))), p(leased(days("gh", 8901, 8908)...)),
		p(leased(lease("gh", 8900, 8904), lease("ef", 8905, 8909)), shared("gh")), p(held("cd"), leased(lease("ab", 8903, 8903))),
		p(asked(on(0, 400, 1)), leased(lease("gh", 0, 400))), p(asked(on(99599, 99999, 64)), leased(lease("gh", 99999, 99999))),
		p(asked(on(8900, 8909, 2)), leased(lease("gh", 8901, 8904))),
	)
	for _, q := range goodRequests() {
		all = append(all, slot(q))
	}
	for _, s := range names {
		all = append(all, p(held(s), shared("other"), leased(lease("other", 8900, 8900))), p(shared(s), leased(lease(s, 8909, 8909))))
	}
	return all
}

// badBooks has books with each error, and with later errors beside it.
func badBooks() []bad[trade.Book] {
	var all []bad[trade.Book]
	add := func(what string, e api.Errno, b trade.Book) {
		all = append(all, bad[trade.Book]{what, b, e})
	}
	noWishes := make([]trade.Wish, 65)
	add("65 slots", api.ErrMany, book(slots(65)...))
	add("65 empty slots", api.ErrMany, waiting(book(make([]trade.Slot, 65)...), noWishes...))
	add("an empty slot", api.ErrName, waiting(book(q(), trade.Slot{}), noWishes...))
	for _, x := range badSlots() {
		add(x.what, x.e, book(x.value))
		add("behind another slot: "+x.what, x.e, waiting(book(q(), x.value, trade.Slot{}, q()), noWishes...))
	}
	add("a slot twice", api.ErrTwice, waiting(book(p(), p()), noWishes...))
	add("a slot twice with other facts", api.ErrTwice, book(p(), q(), slot(request("p", "x", 5))))
	add("a slot twice with an error", api.ErrName, book(p(), p(held(""))))
	add("a slot twice before an error", api.ErrTwice, book(p(), p(), trade.Slot{}))
	add("the 64th slot twice", api.ErrTwice, book(append(slots(63), slots(1)...)...))
	add("65 wishes", api.ErrMany, waiting(book(p()), wishes(65)...))
	add("65 empty wishes", api.ErrMany, waiting(book(), noWishes...))
	add("an empty wish", api.ErrName, waiting(book(), trade.Wish{}))
	for _, x := range badRequests() {
		add("a wish: "+x.what, x.e, waiting(book(), wish(x.value, -1)))
		add("behind another wish: "+x.what, x.e, waiting(book(slot(request("x", "ab", 5))), wish(r(), 5), wish(x.value, -1), trade.Wish{}))
	}
	for _, n := range noRanks {
		add(fmt.Sprint("rank ", n), api.ErrRange, waiting(book(p()), wish(r(), 5), wish(request("p", "ab", 600), n), trade.Wish{}))
	}
	p, q := request("p", "ab", 600), request("q", "ab", 600)
	add("a wish with the name of a slot", api.ErrTwice, waiting(book(slot(q), slot(p)), wish(r(), 5), wish(p, 4)))
	add("a wish twice", api.ErrTwice, waiting(book(), wish(p, 5), wish(p, 6)))
	add("a wish twice with one rank", api.ErrTwice, waiting(book(), wish(p, 5), wish(p, 5)))
	add("a wish twice with a lower rank", api.ErrTwice, waiting(book(), wish(p, 5), wish(q, 6), wish(p, 4), trade.Wish{}))
	add("ranks that descend", api.ErrOrder, waiting(book(), wish(p, 6), wish(q, 5), trade.Wish{}))
	add("names that descend", api.ErrOrder, waiting(book(), wish(q, 5), wish(p, 5)))
	add("names that descend by bytes", api.ErrOrder, waiting(book(), wish(p, 5), wish(request("Q", "ab", 600), 5)))
	add("the last one", api.ErrOrder, waiting(book(), append(wishes(62), wish(p, 61), wish(q, 60))...))
	return all
}

// goodBooks has books on the edges of what is permitted.
func goodBooks() []trade.Book {
	all := list(trade.Book{}, book(p(), q(), s()), book(slots(64)...), waiting(book(slots(64)...), wishes(64)...), waiting(book(), wishes(64)...))
	for _, s := range goodSlots() {
		other := request("other", "ab", 600)
		all = append(all, book(s), waiting(book(slot(other), s), wish(request("other2", "ab", 600), 0)), waiting(book(slot(other)), wish(s.Request, 999999999)))
	}
	a, b, c := request("a", "ab", 600), request("b", "ab", 600), request("B", "ab", 600)
	return append(all, waiting(book(p(), slot(c)), wish(b, 0), wish(a, 1)), waiting(book(), wish(c, 5), wish(a, 5), wish(b, 5)), waiting(book(), wish(b, 0), wish(c, 999999999)))
}

// badLimits has limits with an error.
func badLimits() []bad[[]capacity.Limit] {
	all := []bad[[]capacity.Limit]{
		{"33 empty limits", make([]capacity.Limit, 33), api.ErrMany},
		{"an empty limit", make([]capacity.Limit, 1), api.ErrName},
		{"no kind", list(hour(), hour(named("b"), ofKind(""))), api.ErrKind},
		{"no length", list(hour(lasting(0)), hour()), api.ErrRange},
		{"from above to", list(hour(every(1, 2, 1))), api.ErrOrder},
		{"no most", list(hour(atMost(-1))), api.ErrRange},
		{"twice", list(hour(), hour()), api.ErrTwice},
	}
	for _, x := range badPeriods {
		all = append(all, bad[[]capacity.Limit]{x.what, list(hour(func(l *capacity.Limit) { l.Period = x.value })), x.e})
	}
	return all
}

// noise is a fixed sequence of numbers from 0 to n - 1 for inputs of many forms.
type noise uint32

func (x *noise) next(n int) int {
	*x = *x*1664525 + 1013904223
	return int(*x>>8) % n
}

// pick returns one of some values.
func pick[T any](x *noise, values ...T) T { return values[x.next(len(values))] }
