package capacity_test

import (
	"fmt"
	"math"
	"slices"
	"strings"
	"testing"

	"turnround/api"
	"turnround/capacity"
)

var (
	oddNumbers = []int{math.MinInt, math.MinInt + 1, -1440, -1, 0, 1, 2, 9, 30, 99, 360, 999, 1000, 1439, 1440, 1441, 3240, 99999, 100000, 143999999, 144000000, 999999999, 1000000000, math.MaxInt32, math.MaxInt - 1, math.MaxInt}
	oddTexts   = []string{"", " ", "A", "D", "T", "day", "x", "\x00", "\xff\xfe", "\xe2\x82", "äö", strings.Repeat("a", 24), strings.Repeat("a", 25), strings.Repeat("9", 20000)}
)

// oddLimits has limits with odd strings and numbers in each field.
func oddLimits() []capacity.Limit {
	all := append(goodLimits(), capacity.Limit{})
	for _, x := range badLimits() {
		all = append(all, x.value)
	}
	for i, n := range oddNumbers {
		s := oddTexts[i%len(oddTexts)]
		all = append(all,
			capacity.Limit{Name: s, Kind: s, Terminal: s, Length: n, Step: n, From: n, To: n, Period: api.Period{From: n, To: n, Days: n}, Most: n},
			day(named(s)), day(lasting(n)), day(every(n, 0, 1439)), day(every(1, n, n)), day(on(n, n, 127)), day(on(2, 3, n)), day(atMost(n)),
			day(on(n, n, 127), lasting(1440), every(1, 0, 1439)),
		)
	}
	return all
}

func oddMovements() []api.Movement {
	all := []api.Movement{{}, arrival(0), arrival(143999999), departure(3300)}
	for _, x := range badMovements() {
		all = append(all, x.value)
	}
	for i, n := range oddNumbers {
		s := oddTexts[i%len(oddTexts)]
		all = append(all, arrival(n), departure(n), api.Movement{Moment: n, Kind: s, Terminal: s, Seats: n, Size: n, Noise: n, Name: s})
	}
	return all
}

func oddRequests() []api.Request {
	all := []api.Request{request(onDays(0, 400, 127)), request(onDays(99599, 99999, 127)), request(onDays(99999, 99999, 127), at(1439)), request(onDays(0, 0, 127), at(0))}
	for _, x := range badRequests() {
		all = append(all, x.value)
	}
	for i, n := range oddNumbers {
		s := oddTexts[i%len(oddTexts)]
		all = append(all, request(at(n)), request(onDays(n, n, 127)), request(onDays(2, 3, n)),
			api.Request{Name: s, Carrier: s, Kind: s, Terminal: s, Partner: s, Link: s, Period: api.Period{From: n, To: n, Days: n}, Minute: n, Seats: n, Size: n, Noise: n})
	}
	return all
}

// zeroUnless checks that a result beside an error is zero.
func zeroUnless(t *testing.T, what string, e api.Errno, zero bool) {
	t.Helper()
	is(t, what+" beside an error is zero", e == api.OK || zero, true)
}

// P1: no limits make a function panic, and each one returns the error of a limit first.
func TestOddLimits(t *testing.T) {
	for _, l := range oddLimits() {
		one := []capacity.Limit{l}
		bad := capacity.CheckLimits(one)
		what := " of " + fmt.Sprintf("%.60q", fmt.Sprint(l))
		first := func(name string, e api.Errno, zero bool) {
			t.Helper()
			zeroUnless(t, name+what, e, zero)
			if bad != api.OK {
				is(t, name+what, e, bad)
			}
		}
		for _, n := range oddNumbers {
			begins, e := capacity.Begins(l, n)
			first("Begins", e, len(begins) == 0)
			count, e := capacity.Count(l, three(), n)
			first("Count", e, count == 0)
			table, e := capacity.Table(l, three(), n)
			first("Table", e, len(table) == 0)
			free, e := capacity.Free(one, three(), request(), n, 1439)
			first("Free", e, len(free) == 0)
			nearest, e := capacity.Nearest(one, three(), request(), 0, n)
			first("Nearest", e, nearest == [2]int{})
		}
		peak, e := capacity.Peak(l, three())
		first("Peak", e, peak == capacity.Window{})
		w, e := capacity.First(one, three())
		first("First", e, w == capacity.Window{})
		excess, e := capacity.Excess(one, three())
		first("Excess", e, len(excess) == 0)
		put, e := capacity.Put(one, day())
		first("Put", e, len(put) == 0)
		put, e = capacity.Put(nil, l)
		first("Put", e, len(put) == 0)
		for _, s := range oddTexts {
			left, e := capacity.Without(one, s)
			first("Without", e, len(left) == 0)
		}
	}
}

// P1: no movements and requests make a function panic.
func TestOddMovements(t *testing.T) {
	wide := list(day(lasting(1440), every(1, 0, 1439), on(0, 400, 127)), day(named("end"), lasting(1440), every(1, 0, 1439), on(99599, 99999, 127)))
	for _, m := range oddMovements() {
		one := []api.Movement{m}
		bad := capacity.CheckMovements(one)
		for _, l := range [][]capacity.Limit{nil, list(day()), wide} {
			room, e := capacity.Room(l, one, m)
			is(t, "Room", e, bad)
			zeroUnless(t, "Room", e, room == 0)
			full, e := capacity.Full(l, nil, m)
			is(t, "Full", e, bad)
			zeroUnless(t, "Full", e, len(full) == 0)
			excess, e := capacity.Excess(l, one)
			is(t, "Excess", e, bad)
			zeroUnless(t, "Excess", e, len(excess) == 0)
		}
		merged, e := capacity.Merge(one, one)
		is(t, "Merge", e, bad)
		zeroUnless(t, "Merge", e, len(merged) == 0)
		for _, s := range oddTexts {
			dropped, e := capacity.Dropped(one, s)
			zeroUnless(t, "Dropped", e, len(dropped) == 0)
		}
	}
	for _, r := range oddRequests() {
		movements, bad := capacity.Movements(r)
		zeroUnless(t, "Movements", bad, len(movements) == 0)
		for _, l := range [][]capacity.Limit{nil, list(day()), wide} {
			fits, e := capacity.Fits(l, three(), r)
			is(t, "Fits", e, bad)
			zeroUnless(t, "Fits", e, !fits)
			free, e := capacity.Free(l, three(), r, 0, 1439)
			is(t, "Free", e, bad)
			zeroUnless(t, "Free", e, len(free) == 0)
			nearest, e := capacity.Nearest(l, three(), r, 0, 1439)
			is(t, "Nearest", e, bad)
			zeroUnless(t, "Nearest", e, nearest == [2]int{})
		}
	}
}

// P1: no lists of any length make a function panic.
func TestOddLists(t *testing.T) {
	for _, n := range []int{0, 1, 32, 33, 1000, 30000, 30001, 100000} {
		empty, traffic := make([]capacity.Limit, n), make([]api.Movement, n)
		wantLimits, wantTraffic := api.ErrName, api.ErrKind
		switch {
		case n == 0:
			wantLimits, wantTraffic = api.OK, api.OK
		case n > 30000:
			wantLimits, wantTraffic = api.ErrMany, api.ErrMany
		case n > 32:
			wantLimits = api.ErrMany
		}
		is(t, "CheckLimits", capacity.CheckLimits(empty), wantLimits)
		is(t, "CheckMovements", capacity.CheckMovements(traffic), wantTraffic)
		_, e := capacity.Excess(empty, nil)
		is(t, "Excess of limits", e, wantLimits)
		_, e = capacity.Excess(nil, traffic)
		is(t, "Excess of movements", e, wantTraffic)
		_, e = capacity.Room(empty, traffic, arrival(5))
		if wantLimits != api.OK {
			is(t, "Room", e, wantLimits)
		}
		_, e = capacity.Put(empty, day())
		is(t, "Put", e, wantLimits)
		_, e = capacity.Merge(nil, traffic)
		is(t, "Merge", e, wantTraffic)
		_, e = capacity.Dropped(traffic, "x")
		is(t, "Dropped", e, wantTraffic)
	}
}

// P1: the largest inputs are examined to their end.
func TestLargestInputs(t *testing.T) {
	var all []capacity.Limit
	for i := range 32 {
		all = append(all, day(named(fmt.Sprint("l", i)), lasting(1440), every(1, 0, 1439), on(1000, 1400, 127), atMost(30000)))
	}
	traffic := make([]api.Movement, 30000)
	for i := range traffic {
		traffic[i] = arrival(1000*1440 + i*19)
	}
	r := request(onDays(1000, 1400, 127))
	excess, e := capacity.Excess(all, traffic)
	is(t, "Excess", e, api.OK)
	isList(t, "Excess", excess, nil)
	free, e := capacity.Free(all, traffic, r, 0, 1439)
	is(t, "Free", e, api.OK)
	isList(t, "Free", free, from(0, 1439))
	all[31].Most = 76
	w, e := capacity.First(all, traffic)
	is(t, "First of none", e, api.ErrNone)
	is(t, "First of none", w, capacity.Window{})
	free, e = capacity.Free(all, traffic, r, 0, 1439)
	is(t, "Free of none", e, api.OK)
	isList(t, "Free of none", free, nil)
}

// everything calls all functions that have lists as arguments.
func everything(l []capacity.Limit, m []api.Movement) {
	one := day()
	capacity.CheckLimits(l)
	capacity.CheckMovements(m)
	capacity.Count(one, m, 3240)
	capacity.Table(one, m, 2)
	capacity.Peak(one, m)
	capacity.First(l, m)
	capacity.Excess(l, m)
	capacity.Room(l, m, arrival(3300))
	capacity.Full(l, m, arrival(3300))
	capacity.Fits(l, m, request())
	capacity.Free(l, m, request(), 0, 1439)
	capacity.Nearest(l, m, request(), 0, 1439)
	capacity.Put(l, one)
	capacity.Put(l, day(named("l0"), atMost(9)))
	capacity.Without(l, "l0")
	capacity.Merge(m, three())
	capacity.Merge(three(), m)
	capacity.Dropped(m, "a")
}

// Rules: arguments are not modified, nor is what stands behind a list.
func TestArgumentsStay(t *testing.T) {
	l := limits(5)
	m := []api.Movement{seated(3245, "D", "b", 1), seated(3245, "A", "a", 2), seated(3280, "A", "x", 3), seated(3280, "A", "a", 4), seated(9999, "D", "a", 5)}
	limitsBefore, movementsBefore := slices.Clone(l), slices.Clone(m)
	everything(l, m)
	everything(l[:2], m[:3])
	everything(l[:0], m[:0])
	isList(t, "limits", l, limitsBefore)
	isList(t, "movements", m, movementsBefore)
	m[1], m[4] = m[4], m[1]
	movementsBefore = slices.Clone(m)
	everything(l, m)
	isList(t, "movements in a wrong order", m, movementsBefore)
}

// isFresh checks that a result does not change with another one of the same call.
func isFresh[T comparable](t *testing.T, what string, call func() []T) {
	t.Helper()
	a, b := call(), call()
	before := slices.Clone(b)
	is(t, what+" has elements", len(a) > 0, true)
	var zero T
	for i := range a {
		a[i] = zero
	}
	_ = append(a, zero)
	isList(t, what+" after another result was changed", b, before)
	isList(t, what+" called again", call(), before)
}

// Rules: results share no memory with arguments, or with each other.
func TestResultsShareNothing(t *testing.T) {
	l, m := limits(3), three()
	isFresh(t, "Movements", func() []api.Movement { r, _ := capacity.Movements(request()); return r })
	isFresh(t, "Begins", func() []int { r, _ := capacity.Begins(day(), 2); return r })
	isFresh(t, "Table", func() []int { r, _ := capacity.Table(day(), m, 2); return r })
	isFresh(t, "Excess", func() []capacity.Window { r, _ := capacity.Excess(l, m); return r })
	isFresh(t, "Full", func() []capacity.Window { r, _ := capacity.Full(l, m, arrival(3290)); return r })
	isFresh(t, "Free", func() []int { r, _ := capacity.Free(l, m, request(), 0, 1439); return r })
	isFresh(t, "Put of another one", func() []capacity.Limit { r, _ := capacity.Put(l, day()); return r })
	isFresh(t, "Put of a changed one", func() []capacity.Limit { r, _ := capacity.Put(l, day(named("l1"))); return r })
	isFresh(t, "Without", func() []capacity.Limit { r, _ := capacity.Without(l, "l1"); return r })
	isFresh(t, "Merge", func() []api.Movement { r, _ := capacity.Merge(m, m); return r })
	isFresh(t, "Merge with nothing", func() []api.Movement { r, _ := capacity.Merge(m, nil); return r })
	isFresh(t, "Merge of nothing", func() []api.Movement { r, _ := capacity.Merge(nil, m); return r })
	isFresh(t, "Dropped", func() []api.Movement { r, _ := capacity.Dropped(m, "a"); return r })
	isList(t, "limits", l, limits(3))
	isList(t, "movements", m, three())
}
