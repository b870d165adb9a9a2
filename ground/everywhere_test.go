package ground_test

import (
	"math"
	"slices"
	"strings"
	"testing"

	"turnround/api"
	"turnround/calendar"
	"turnround/ground"
)

var (
	oddNumbers = []int{math.MinInt, math.MinInt + 1, -1440, -1, 0, 1, 2, 9, 10, 30, 99, 240, 241, 360, 999, 1000, 1439, 1440, 1441, 2026, 10080, 100000, 143999999, 144000000, 999999999, 1000000000, math.MaxInt32, math.MaxInt - 1, math.MaxInt}
	oddTexts   = []string{"", " ", "A", "D", "T", "S", "W", "x", "\x00", "\xff\xfe", "\xe2\x82", "äö", strings.Repeat("a", 24), strings.Repeat("a", 25), strings.Repeat("9", 20000)}
)

func oddStands() []ground.Stand {
	all := append(two(), ground.Stand{})
	for _, x := range badStands() {
		all = append(all, x.value)
	}
	for i, n := range oddNumbers {
		s := oddTexts[i%len(oddTexts)]
		all = append(all, ground.Stand{Name: s, Size: n, Terminal: s}, stand("x", upTo(n)), stand("x", in(s)), stand(s))
	}
	return all
}

func oddTurns() []ground.Turn {
	all := append(xyz(), ground.Turn{}, turn("long", 0, 143999999), turn("end", 143999999, 143999999))
	for _, x := range badTurns() {
		all = append(all, x.value)
	}
	for i, n := range oddNumbers {
		s := oddTexts[i%len(oddTexts)]
		all = append(all, ground.Turn{Name: s, Start: n, End: n, Size: n, Terminal: s}, turn("x", n, n), turn("x", 0, n), turn("x", n, 143999999), turn("x", 5, 9, ofSize(n)), turn("x", 5, 9, at(s)))
	}
	return all
}

func oddMovements() []api.Movement {
	all := append(three(), api.Movement{}, movement(0, "D"), movement(143999999, "A"), movement(143999999, "D"))
	for _, x := range badMovements() {
		all = append(all, x.value)
	}
	for i, n := range oddNumbers {
		s := oddTexts[i%len(oddTexts)]
		all = append(all, movement(n, "A"), movement(n, "D"), api.Movement{Moment: n, Kind: s, Terminal: s, Seats: n, Size: n, Noise: n, Name: s})
	}
	return all
}

func oddLimits() []ground.SeatLimit {
	all := append(list(limit()), ground.SeatLimit{})
	for _, x := range badLimits() {
		all = append(all, x.value)
	}
	for i, n := range oddNumbers {
		s := oddTexts[i%len(oddTexts)]
		all = append(all, ground.SeatLimit{Terminal: s, Kind: s, Length: n, Step: n, Most: n}, limit(lasting(n, n)), limit(lasting(n, 1)), limit(lasting(1440, n)), limit(atMost(n)), limit(ofKind(s)), limit(forTerminal(s)))
	}
	return all
}

func oddQuotas() []ground.Quota {
	all := append(list(quota()), ground.Quota{})
	for _, x := range badQuotas() {
		all = append(all, x.value)
	}
	for i, n := range oddNumbers {
		s := oddTexts[i%len(oddTexts)]
		all = append(all, ground.Quota{Night: ground.Night{From: n, To: n}, Season: calendar.Season{Year: n, Kind: s}, Count: n, Points: n}, quota(atNight(n, 0)), quota(atNight(0, n)), quota(during(n, "W")), quota(of(n, n)))
	}
	return all
}

// beside checks that a result beside an error is zero, and that the error is that of the first argument with one.
func beside(t *testing.T, what string, e api.Errno, zero bool, bad ...api.Errno) {
	t.Helper()
	is(t, what+" beside an error is zero", e == api.OK || zero, true)
	for _, want := range bad {
		if want != api.OK {
			is(t, what, e, want)
			return
		}
	}
}

// P1: no stands, turnarounds, buffers, assignments and lacks make a function panic.
func TestOddGrounds(t *testing.T) {
	try := func(stands []ground.Stand, turns []ground.Turn, buffer int) {
		t.Helper()
		badStands, badTurns := ground.CheckStands(stands), ground.CheckTurns(turns)
		badBuffer := api.OK
		if buffer < 0 || buffer > 240 {
			badBuffer = api.ErrRange
		}
		a, e := ground.Assign(stands, turns, buffer)
		beside(t, "Assign", e, len(a) == 0, badStands, badTurns, badBuffer)
		lack, e := ground.Clash(stands, turns, buffer)
		beside(t, "Clash", e, lack == ground.Lack{}, badStands, badTurns, badBuffer)
		least, e := ground.Least(turns, buffer)
		beside(t, "Least", e, least == [9]int{}, badTurns, badBuffer)
		for _, n := range oddNumbers {
			for _, numbers := range [][]int{nil, list(n), list(0, n), make([]int, len(turns))} {
				busy, e := ground.Busy(stands, turns, buffer, numbers)
				beside(t, "Busy", e, len(busy) == 0, badStands, badTurns, badBuffer)
				is(t, "CheckAssign", ground.CheckAssign(stands, turns, buffer, numbers), e)
			}
			for _, x := range []ground.Lack{{Moment: n, Size: 1}, {Moment: 5, Size: n}, {Moment: n, Size: n}} {
				beside(t, "CheckClash", ground.CheckClash(stands, turns, buffer, x), true, badStands, badTurns, badBuffer)
			}
		}
	}
	for _, s := range oddStands() {
		try(list(s), xyz(), 0)
		try(list(s, stand("other")), nil, 240)
		suits, e := ground.Suits(s, xyz()[0])
		beside(t, "Suits", e, !suits, ground.CheckStands(list(s)))
	}
	for _, x := range oddTurns() {
		try(two(), list(x), 240)
		try(nil, list(turn("other", 0, 143999999), x), 0)
		suits, e := ground.Suits(two()[0], x)
		beside(t, "Suits", e, !suits, ground.CheckTurns(list(x)))
		for _, n := range oddNumbers {
			is, e := ground.Overlap(x, xyz()[0], n)
			beside(t, "Overlap", e, !is, ground.CheckTurns(list(x)))
		}
	}
	for _, n := range oddNumbers {
		try(two(), xyz(), n)
		try(nil, nil, n)
	}
}

// P1: no movements, limits and moments make a function panic.
func TestOddHalls(t *testing.T) {
	for _, l := range oddLimits() {
		bad := ground.CheckSeats(list(l))
		for _, n := range oddNumbers {
			seats, e := ground.Seats(l, three(), n)
			beside(t, "Seats", e, seats == 0, bad)
		}
		w, e := ground.Exceeded(list(l), three())
		beside(t, "Exceeded", e, w == ground.Window{}, bad)
		room, e := ground.Room(list(l), three(), three()[0])
		beside(t, "Room", e, room == 0, bad)
	}
	wide := list(limit(lasting(1440, 1), atMost(0)), limit(ofKind("T"), lasting(1, 1)))
	for _, m := range oddMovements() {
		bad := ground.CheckMovements(list(m))
		seats, e := ground.Seats(limit(), list(m), 0)
		beside(t, "Seats", e, seats == 0, bad)
		w, e := ground.Exceeded(wide, list(m))
		beside(t, "Exceeded", e, w == ground.Window{}, bad)
		room, e := ground.Room(wide, three(), m)
		beside(t, "Room", e, room == 0, bad)
		room, e = ground.Room(wide, list(m), m)
		beside(t, "Room", e, room == 0, bad)
		for _, n := range oddNumbers {
			x, e := ground.Pair(m, movement(160, "D"), n, n)
			beside(t, "Pair", e, x == ground.Turn{}, bad)
			x, e = ground.Pair(movement(100, "A"), m, 0, n)
			beside(t, "Pair", e, x == ground.Turn{}, bad)
		}
	}
}

// P1: no nights and quotas make a function panic.
func TestOddNights(t *testing.T) {
	for _, q := range oddQuotas() {
		bad := ground.CheckQuota(q)
		used, e := ground.Used(q, flights())
		beside(t, "Used", e, used == ground.Sum{}, bad)
		left, e := ground.Left(q, flights())
		beside(t, "Left", e, left == ground.Sum{}, bad)
		rows, e := ground.Table(q, flights())
		beside(t, "Table", e, len(rows) == 0, bad)
		for _, n := range oddNumbers {
			day, e := ground.NightOf(q.Night, n)
			beside(t, "NightOf", e, day == 0)
		}
	}
	for _, m := range oddMovements() {
		used, e := ground.Used(quota(), list(m))
		beside(t, "Used", e, used == ground.Sum{}, ground.CheckMovements(list(m)))
		rows, e := ground.Table(quota(), list(m))
		beside(t, "Table", e, len(rows) == 0, ground.CheckMovements(list(m)))
	}
}

// P1: no lists of any length make a function panic.
func TestOddLists(t *testing.T) {
	for _, n := range []int{0, 1, 32, 33, 256, 257, 1000, 100000} {
		// want is the error of n empty elements, of which there may be only so many.
		want := func(most int, ofNone, ofOne api.Errno) api.Errno {
			switch {
			case n == 0:
				return ofNone
			case n > most:
				return api.ErrMany
			}
			return ofOne
		}
		s, u, m, l := make([]ground.Stand, n), make([]ground.Turn, n), make([]api.Movement, n), make([]ground.SeatLimit, n)
		is(t, "CheckStands", ground.CheckStands(s), want(32, api.OK, api.ErrName))
		is(t, "CheckTurns", ground.CheckTurns(u), want(256, api.OK, api.ErrName))
		is(t, "CheckMovements", ground.CheckMovements(m), want(256, api.OK, api.ErrKind))
		is(t, "CheckSeats", ground.CheckSeats(l), want(32, api.OK, api.ErrKind))
		_, e := ground.Assign(nil, u, 0)
		is(t, "Assign", e, want(256, api.OK, api.ErrName))
		_, e = ground.Clash(s, nil, 0)
		is(t, "Clash", e, want(32, api.ErrNone, api.ErrName))
		is(t, "CheckAssign", ground.CheckAssign(nil, nil, 0, make([]int, n)), want(math.MaxInt, api.OK, api.ErrShape))
		_, e = ground.Exceeded(nil, m)
		is(t, "Exceeded", e, want(256, api.ErrNone, api.ErrKind))
		_, e = ground.Table(quota(), m)
		is(t, "Table", e, want(256, api.OK, api.ErrKind))
	}
}

// P1: the largest inputs are examined to their end.
func TestLargestInputs(t *testing.T) {
	var l []ground.SeatLimit
	for range 32 {
		l = append(l, limit(lasting(1440, 1), atMost(999)))
	}
	var far []api.Movement
	for i := range 256 {
		far = append(far, movement(i*2000, "A", withSeats(999)))
	}
	_, e := ground.Exceeded(l, far)
	is(t, "Exceeded of movements far from each other", e, api.ErrNone)
	near := slices.Repeat(list(movement(720000, "A", withSeats(3))), 256)
	_, e = ground.Exceeded(l, near)
	is(t, "Exceeded of movements together", e, api.ErrNone)
	is(t, "Room beside movements together", ok[int](t)(ground.Room(l, near, near[0])), 231)
	l[31].Most = 998
	is(t, "Exceeded of the last limit", ok[ground.Window](t)(ground.Exceeded(l, far)), ground.Window{Limit: 31, Moment: 0, Seats: 999})
	all := turns(256)
	for i := range all {
		all[i].Start, all[i].End, all[i].Size = 1000, 1001+i, 1+i%9
	}
	is(t, "Least of 256", ok[[9]int](t)(ground.Least(all, 240)), [9]int{256, 227, 198, 169, 140, 112, 84, 56, 28})
	is(t, "Clash of 256", ok[ground.Lack](t)(ground.Clash(stands(32), all, 240)), ground.Lack{Moment: 1000, Size: 9})
}

// everything calls all functions that have lists as arguments.
func everything(s []ground.Stand, u []ground.Turn, m []api.Movement, l []ground.SeatLimit, a []int) {
	ground.CheckStands(s)
	ground.CheckTurns(u)
	ground.CheckMovements(m)
	ground.CheckSeats(l)
	for _, buffer := range []int{0, 1, 240} {
		ground.Assign(s, u, buffer)
		ground.CheckAssign(s, u, buffer, a)
		ground.Clash(s, u, buffer)
		ground.CheckClash(s, u, buffer, ground.Lack{Moment: 60, Size: 1})
		ground.Least(u, buffer)
		ground.Busy(s, u, buffer, a)
	}
	ground.Seats(limit(), m, 0)
	ground.Exceeded(l, m)
	ground.Room(l, m, movement(45, "A"))
	ground.Used(quota(), m)
	ground.Left(quota(), m)
	ground.Table(quota(), m)
}

// Rules: arguments are not modified, nor is what stands behind a list.
func TestArgumentsStay(t *testing.T) {
	s, u, a := append(two(), stand("a")), append(lateZ(), turn("a", 3, 4)), list(0, 1, 1, 0)
	m := append(list(three()[2], three()[0], three()[1]), flights()...)
	l := list(limit(), limit(ofKind("T"), atMost(5)), limit(atMost(999)))
	s0, u0, a0, m0, l0 := slices.Clone(s), slices.Clone(u), slices.Clone(a), slices.Clone(m), slices.Clone(l)
	everything(s, u, m, l, a)
	everything(s[:2], u[:3], m[:2], l[:1], a[:3])
	everything(s[:0], u[:0], m[:0], l[:0], a[:0])
	isList(t, "stands", s, s0)
	isList(t, "turnarounds", u, u0)
	isList(t, "assignment", a, a0)
	isList(t, "movements", m, m0)
	isList(t, "limits", l, l0)
}

// isFresh checks that a result does not change with another one of the same call.
func isFresh[T comparable](t *testing.T, what string, call func() ([]T, api.Errno)) {
	t.Helper()
	a, _ := call()
	b, _ := call()
	before := slices.Clone(b)
	is(t, what+" has elements", len(a) > 0, true)
	var zero T
	for i := range a {
		a[i] = zero
	}
	_ = append(a, zero)
	isList(t, what+" after another result was changed", b, before)
	again, _ := call()
	isList(t, what+" called again", again, before)
}

// Rules: results share no memory with arguments, or with each other.
func TestResultsShareNothing(t *testing.T) {
	a := list(0, 1, 1)
	isFresh(t, "Assign", func() ([]int, api.Errno) { return ground.Assign(two(), lateZ(), 0) })
	isFresh(t, "Busy", func() ([]int, api.Errno) { return ground.Busy(two(), lateZ(), 0, a) })
	isFresh(t, "Table", func() ([]ground.Row, api.Errno) { return ground.Table(quota(), flights()) })
	isList(t, "assignment", a, list(0, 1, 1))
}
