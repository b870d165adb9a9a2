package capacity_test

import (
	"fmt"
	"math"
	"slices"
	"strings"
	"testing"

	"turnround/api"
	"turnround/capacity"
)

var (
	names   = []string{"a", "Z", "q1", "A_9", strings.Repeat("x", 24)}
	noNames = []string{"-", "1a", "_a", "a-b", "a b", "a\n", "\x00", "\xff", "ä", "aé", strings.Repeat("a", 25)}

	noDays    = []int{math.MinInt, -1, 100000, math.MaxInt}
	noMinutes = []int{math.MinInt, -1, 1440, 9999, math.MaxInt}
	noMoments = []int{math.MinInt, -1, 144000000, math.MaxInt}
)

// badPeriods has periods with each error, and with later errors beside it.
var badPeriods = []struct {
	p api.Period
	e api.Errno
}{
	{api.Period{From: -1, To: 10, Days: 1}, api.ErrRange},
	{api.Period{From: 10, To: 100000, Days: 1}, api.ErrRange},
	{api.Period{From: 11, To: 10, Days: 1}, api.ErrOrder},
	{api.Period{From: 11, To: 10, Days: 0}, api.ErrOrder},
	{api.Period{From: 10, To: 411, Days: 1}, api.ErrLarge},
	{api.Period{From: 10, To: 411, Days: 0}, api.ErrLarge},
	{api.Period{From: 10, To: 20, Days: 0}, api.ErrRange},
	{api.Period{From: 10, To: 20, Days: 128}, api.ErrRange},
}

// day is the limit L of the chapter's examples, with changes.
func day(changes ...func(*capacity.Limit)) capacity.Limit {
	l := capacity.Limit{
		Name: "day", Kind: "T", Length: 60, Step: 30, From: 360, To: 420,
		Period: api.Period{From: 2, To: 3, Days: 127}, Most: 2,
	}
	for _, change := range changes {
		change(&l)
	}
	return l
}

func named(name string) func(*capacity.Limit) {
	return func(l *capacity.Limit) { l.Name = name }
}

func ofKind(kind string) func(*capacity.Limit) {
	return func(l *capacity.Limit) { l.Kind = kind }
}

func in(terminal string) func(*capacity.Limit) {
	return func(l *capacity.Limit) { l.Terminal = terminal }
}

func lasting(length int) func(*capacity.Limit) {
	return func(l *capacity.Limit) { l.Length = length }
}

// every has windows at the multiples of a step, from one minute to another.
func every(step, from, to int) func(*capacity.Limit) {
	return func(l *capacity.Limit) { l.Step, l.From, l.To = step, from, to }
}

func on(from, to, mask int) func(*capacity.Limit) {
	return func(l *capacity.Limit) { l.Period = api.Period{From: from, To: to, Days: mask} }
}

func atMost(most int) func(*capacity.Limit) {
	return func(l *capacity.Limit) { l.Most = most }
}

// limits returns n limits with the names l0, l1, ..
func limits(n int) []capacity.Limit {
	var all []capacity.Limit
	for i := range n {
		all = append(all, day(named(fmt.Sprint("l", i))))
	}
	return all
}

func arrival(moment int) api.Movement {
	return api.Movement{Moment: moment, Kind: "A", Name: "x"}
}

func departure(moment int) api.Movement {
	return api.Movement{Moment: moment, Kind: "D", Name: "x"}
}

// arrivals returns arrivals at moments.
func arrivals(moments ...int) []api.Movement {
	var all []api.Movement
	for _, moment := range moments {
		all = append(all, arrival(moment))
	}
	return all
}

// three has the movements of the chapter's examples.
func three() []api.Movement { return arrivals(3245, 3280, 3299) }

// request is the request of the chapter's examples, with changes.
func request(changes ...func(*api.Request)) api.Request {
	r := api.Request{Name: "x", Kind: "A", Period: api.Period{From: 2, To: 3, Days: 127}, Minute: 380}
	for _, change := range changes {
		change(&r)
	}
	return r
}

func at(minute int) func(*api.Request) {
	return func(r *api.Request) { r.Minute = minute }
}

func onDays(from, to, mask int) func(*api.Request) {
	return func(r *api.Request) { r.Period = api.Period{From: from, To: to, Days: mask} }
}

// bad is a value with an error.
type bad[T any] struct {
	what  string
	value T
	e     api.Errno
}

// badLimits has limits with each error, and with later errors beside it.
func badLimits() []bad[capacity.Limit] {
	var all []bad[capacity.Limit]
	add := func(what string, e api.Errno, changes ...func(*capacity.Limit)) {
		all = append(all, bad[capacity.Limit]{what, day(changes...), e})
	}
	noPeriod := on(9, 8, 127)
	for _, s := range append([]string{""}, noNames...) {
		add("name "+s, api.ErrName, named(s))
		add("name "+s+" and more", api.ErrName, named(s), ofKind(""), noPeriod)
	}
	for _, s := range []string{"", "a", "t", "AD", "T ", "\x00"} {
		add("kind "+s, api.ErrKind, ofKind(s))
		add("kind "+s+" and more", api.ErrKind, ofKind(s), in("1"), lasting(0))
	}
	for _, s := range noNames {
		add("terminal "+s, api.ErrName, in(s))
		add("terminal "+s+" and more", api.ErrName, in(s), lasting(0), noPeriod)
	}
	for _, n := range []int{math.MinInt, -1, 0, 1441, math.MaxInt} {
		add(fmt.Sprint("length ", n), api.ErrRange, lasting(n))
		add(fmt.Sprint("step ", n), api.ErrRange, every(n, 360, 420))
		add(fmt.Sprint("length ", n, " and more"), api.ErrRange, lasting(n), every(1, 2, 1), noPeriod)
		add(fmt.Sprint("step ", n, " and more"), api.ErrRange, every(n, 2, 1), noPeriod)
	}
	for _, n := range noMinutes {
		add(fmt.Sprint("from ", n), api.ErrRange, every(1, n, 1439))
		add(fmt.Sprint("to ", n), api.ErrRange, every(1, 0, n))
		add(fmt.Sprint("from and to ", n), api.ErrRange, every(1, n, n), noPeriod)
	}
	add("from above to", api.ErrOrder, every(1, 1, 0))
	add("from above to, late", api.ErrOrder, every(30, 1439, 1438))
	add("from above to and more", api.ErrOrder, every(1, 1, 0), on(9, 500, 127), atMost(-1))
	for _, x := range badPeriods {
		add(fmt.Sprint("period ", x.p), x.e, func(l *capacity.Limit) { l.Period = x.p })
		add(fmt.Sprint("period ", x.p, " and more"), x.e, func(l *capacity.Limit) { l.Period = x.p }, atMost(-1))
	}
	for _, n := range []int{math.MinInt, -1, 1000000000, math.MaxInt} {
		add(fmt.Sprint("most ", n), api.ErrRange, atMost(n))
	}
	return all
}

// goodLimits has limits on the edges of what is permitted.
func goodLimits() []capacity.Limit {
	all := []capacity.Limit{day()}
	for _, s := range names {
		all = append(all, day(named(s)), day(in(s)), day(named(s), in(s)))
	}
	return append(all,
		day(ofKind("A")), day(ofKind("D")), day(ofKind("A"), in("t1")),
		day(lasting(1)), day(lasting(1440)),
		day(every(1, 0, 0)), day(every(1440, 0, 1439)), day(every(1, 1439, 1439)), day(every(7, 0, 1439)), day(every(30, 361, 389)),
		day(on(0, 0, 1)), day(on(99599, 99999, 127)), day(on(0, 400, 64)), day(on(0, 0, 1)),
		day(atMost(0)), day(atMost(999999999)),
	)
}

// facts are the fields that movements and requests have in common.
type facts struct {
	name     string
	kind     string
	terminal string
	seats    int
	size     int
	noise    int
}

func (f facts) movement(moment int) api.Movement {
	return api.Movement{Moment: moment, Kind: f.kind, Terminal: f.terminal, Seats: f.seats, Size: f.size, Noise: f.noise, Name: f.name}
}

func (f facts) request(minute int) api.Request {
	return api.Request{Name: f.name, Kind: f.kind, Terminal: f.terminal, Period: api.Period{From: 2, To: 3, Days: 127}, Minute: minute, Seats: f.seats, Size: f.size, Noise: f.noise}
}

// badFacts has facts with one error each.
func badFacts() []bad[facts] {
	var all []bad[facts]
	add := func(what string, e api.Errno, change func(*facts)) {
		f := facts{name: "x", kind: "A"}
		change(&f)
		all = append(all, bad[facts]{what, f, e})
	}
	for _, s := range append([]string{""}, noNames...) {
		add("name "+s, api.ErrName, func(f *facts) { f.name = s })
	}
	for _, s := range []string{"", "a", "T", "AD", "D ", "\x00"} {
		add("kind "+s, api.ErrKind, func(f *facts) { f.kind = s })
	}
	for _, s := range noNames {
		add("terminal "+s, api.ErrName, func(f *facts) { f.terminal = s })
	}
	for _, n := range []int{math.MinInt, -1, 1000, math.MaxInt} {
		add(fmt.Sprint("seats ", n), api.ErrRange, func(f *facts) { f.seats = n })
	}
	for _, n := range []int{math.MinInt, -1, 10, math.MaxInt} {
		add(fmt.Sprint("size ", n), api.ErrRange, func(f *facts) { f.size = n })
	}
	for _, n := range []int{math.MinInt, -1, 100, math.MaxInt} {
		add(fmt.Sprint("noise ", n), api.ErrRange, func(f *facts) { f.noise = n })
	}
	return all
}

// goodFacts has facts on the edges of what is permitted.
func goodFacts() []facts {
	all := []facts{
		{name: "x", kind: "A"}, {name: "x", kind: "D"}, {name: "x", kind: "D", terminal: "t1"},
		{name: "x", kind: "A", seats: 999, size: 9, noise: 99}, {name: "x", kind: "A", seats: 1, size: 1, noise: 1},
	}
	for _, s := range names {
		all = append(all, facts{name: s, kind: "A"}, facts{name: "x", kind: "D", terminal: s})
	}
	return all
}

// badMovements has movements with each error, and with later errors beside it.
func badMovements() []bad[api.Movement] {
	var all []bad[api.Movement]
	for _, x := range badFacts() {
		all = append(all, bad[api.Movement]{x.what, x.value.movement(3300), x.e})
		for _, n := range noMoments {
			all = append(all, bad[api.Movement]{fmt.Sprint(x.what, " at ", n), x.value.movement(n), api.ErrRange})
		}
	}
	for _, n := range noMoments {
		all = append(all, bad[api.Movement]{fmt.Sprint("moment ", n), arrival(n), api.ErrRange})
	}
	return append(all,
		bad[api.Movement]{"kind and more", api.Movement{Moment: 5, Kind: "T", Terminal: "1", Seats: -1}, api.ErrKind},
		bad[api.Movement]{"terminal and more", api.Movement{Moment: 5, Kind: "A", Terminal: "1", Seats: -1}, api.ErrName},
		bad[api.Movement]{"seats and no name", api.Movement{Moment: 5, Kind: "A", Seats: 1000}, api.ErrRange},
		bad[api.Movement]{"size and no name", api.Movement{Moment: 5, Kind: "A", Size: 10}, api.ErrRange},
		bad[api.Movement]{"noise and no name", api.Movement{Moment: 5, Kind: "A", Noise: 100}, api.ErrRange},
		bad[api.Movement]{"nothing", api.Movement{}, api.ErrKind},
	)
}

// badRequests has requests with each error, and with later errors beside it.
func badRequests() []bad[api.Request] {
	var all []bad[api.Request]
	add := func(what string, r api.Request, e api.Errno) {
		all = append(all, bad[api.Request]{what, r, e})
	}
	for _, x := range badFacts() {
		add(x.what, x.value.request(380), x.e)
	}
	for _, x := range badPeriods {
		r := request(func(r *api.Request) { r.Period = x.p })
		add(fmt.Sprint("period ", x.p), r, x.e)
		r.Minute, r.Seats = -1, -1
		add(fmt.Sprint("period ", x.p, " and more"), r, x.e)
	}
	for _, n := range noMinutes {
		add(fmt.Sprint("minute ", n), request(at(n)), api.ErrRange)
	}
	add("name and more", request(func(r *api.Request) { r.Name, r.Kind, r.Period.Days, r.Minute = "", "", 0, -1 }), api.ErrName)
	add("kind and more", request(func(r *api.Request) { r.Kind, r.Terminal, r.Minute = "T", "1", -1 }), api.ErrKind)
	add("terminal and more", request(func(r *api.Request) { r.Terminal, r.Minute = "1", -1 }, onDays(9, 8, 127)), api.ErrName)
	add("nothing", api.Request{}, api.ErrName)
	return all
}

func is[T comparable](t *testing.T, what string, got, want T) {
	t.Helper()
	if got != want {
		t.Errorf("%s: got %v, want %v", what, got, want)
	}
}

// isList compares lists; nil and empty ones are equal.
func isList[T comparable](t *testing.T, what string, got, want []T) {
	t.Helper()
	if !slices.Equal(got, want) {
		t.Errorf("%s: got %v, want %v", what, got, want)
	}
}

// noise is a fixed sequence of numbers from 0 to n - 1 for inputs of many forms.
type noise uint32

func (x *noise) next(n int) int {
	*x = *x*1664525 + 1013904223
	return int(*x>>8) % n
}

// pick returns one of some values.
func pick[T any](x *noise, values ...T) T { return values[x.next(len(values))] }
