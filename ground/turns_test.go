package ground_test

import (
	"fmt"
	"math"
	"slices"
	"testing"

	"turnround/api"
	"turnround/ground"
)

// P4.1: the errors of stands, in their order.
func TestCheckStands(t *testing.T) {
	is(t, "CheckStands of nothing", ground.CheckStands(nil), api.OK)
	is(t, "CheckStands of 32", ground.CheckStands(stands(32)), api.OK)
	is(t, "CheckStands of the examples", ground.CheckStands(two()), api.OK)
	is(t, "CheckStands of two names", ground.CheckStands(list(stand("a"), stand("A"))), api.OK)
	for _, s := range names {
		is(t, "CheckStands of the name "+s, ground.CheckStands(list(stand(s))), api.OK)
		is(t, "CheckStands of the terminal "+s, ground.CheckStands(list(stand("x", in(s)))), api.OK)
	}
	for size := 1; size <= 9; size++ {
		is(t, fmt.Sprint("CheckStands of the size ", size), ground.CheckStands(list(stand("x", upTo(size)))), api.OK)
	}
	for _, x := range badStandLists() {
		is(t, "CheckStands: "+x.what, ground.CheckStands(x.value), x.e)
	}
}

// P4.1: the errors of turnarounds, in their order.
func TestCheckTurns(t *testing.T) {
	is(t, "CheckTurns of nothing", ground.CheckTurns(nil), api.OK)
	is(t, "CheckTurns of 256", ground.CheckTurns(turns(256)), api.OK)
	is(t, "CheckTurns of the examples", ground.CheckTurns(xyz()), api.OK)
	is(t, "CheckTurns of two names", ground.CheckTurns(list(turn("a", 0, 0), turn("A", 0, 0))), api.OK)
	for _, s := range names {
		is(t, "CheckTurns of the name "+s, ground.CheckTurns(list(turn(s, 5, 9))), api.OK)
		is(t, "CheckTurns of the terminal "+s, ground.CheckTurns(list(turn("x", 5, 9, at(s)))), api.OK)
	}
	for size := 1; size <= 9; size++ {
		is(t, fmt.Sprint("CheckTurns of the size ", size), ground.CheckTurns(list(turn("x", 5, 9, ofSize(size)))), api.OK)
	}
	for _, times := range [][2]int{{0, 0}, {0, 143999999}, {143999999, 143999999}, {5, 5}, {5, 6}} {
		is(t, fmt.Sprint("CheckTurns of ", times), ground.CheckTurns(list(turn("x", times[0], times[1]))), api.OK)
	}
	for _, x := range badTurnLists() {
		is(t, "CheckTurns: "+x.what, ground.CheckTurns(x.value), x.e)
	}
}

// P4.1: the errors of movements, in their order; their moments may be in any order, and their names the same.
func TestCheckMovements(t *testing.T) {
	m := movement(5, "A")
	is(t, "CheckMovements of nothing", ground.CheckMovements(nil), api.OK)
	is(t, "CheckMovements of 256 with one name", ground.CheckMovements(slices.Repeat(list(m), 256)), api.OK)
	is(t, "CheckMovements in a falling order", ground.CheckMovements(list(movement(9, "A"), movement(5, "D"), movement(7, "A"))), api.OK)
	for _, s := range names {
		is(t, "CheckMovements of the name "+s, ground.CheckMovements(list(changed(m, called(s)))), api.OK)
		is(t, "CheckMovements of the terminal "+s, ground.CheckMovements(list(changed(m, using(s)))), api.OK)
	}
	for _, x := range []api.Movement{
		movement(0, "A"), movement(143999999, "D"),
		movement(5, "A", withSeats(0)), movement(5, "A", withSeats(999)),
		movement(5, "A", withSize(1)), movement(5, "A", withSize(9)),
		movement(5, "A", withNoise(0)), movement(5, "A", withNoise(99)),
	} {
		is(t, fmt.Sprint("CheckMovements of ", x), ground.CheckMovements(list(x)), api.OK)
	}
	for _, x := range badMovementLists() {
		is(t, "CheckMovements: "+x.what, ground.CheckMovements(x.value), x.e)
	}
}

// P4.2: the turnaround of an arrival and a departure.
func TestPair(t *testing.T) {
	a := movement(100, "A", called("in"), withSize(3), withSeats(7), withNoise(8))
	d := movement(160, "D", called("out"), withSize(3), withSeats(9), withNoise(1))
	plain := turn("in", 100, 160, ofSize(3))
	for _, x := range []struct {
		what        string
		a, d        api.Movement
		least, most int
		want        ground.Turn
	}{
		{"without terminals", a, d, 60, 90, plain},
		{"exactly the least and the most minutes", a, d, 60, 60, plain},
		{"the most minutes", a, d, 0, 60, plain},
		{"the terminal of the arrival", changed(a, using("t1")), d, 60, 90, changed(plain, at("t1"))},
		{"the terminal of the departure", a, changed(d, using("t2")), 60, 90, changed(plain, at("t2"))},
		{"one terminal", changed(a, using("t1")), changed(d, using("t1")), 60, 90, changed(plain, at("t1"))},
		{"one name", a, changed(d, called("in")), 60, 90, plain},
		{"no minute", a, changed(d, func(m *api.Movement) { m.Moment = 100 }), 0, 0, turn("in", 100, 100, ofSize(3))},
		{"a week", a, changed(d, func(m *api.Movement) { m.Moment = 10180 }), 10080, 10080, turn("in", 100, 10180, ofSize(3))},
		{"the size 9", changed(a, withSize(9)), changed(d, withSize(9)), 0, 10080, changed(plain, ofSize(9))},
		{"the first moment", movement(0, "A"), movement(0, "D"), 0, 0, turn("x", 0, 0)},
		{"the last moment", movement(143999990, "A"), movement(143999999, "D"), 9, 9, turn("x", 143999990, 143999999)},
	} {
		got, e := ground.Pair(x.a, x.d, x.least, x.most)
		is(t, "Pair: "+x.what, e, api.OK)
		is(t, "Pair: "+x.what, got, x.want)
	}
}

// P4.2: the errors of Pair, in their order.
func TestBadPairs(t *testing.T) {
	refused := func(what string, a, d api.Movement, least, most int, e api.Errno) {
		t.Helper()
		got, gotE := ground.Pair(a, d, least, most)
		is(t, "Pair: "+what, gotE, e)
		is(t, "Pair: "+what, got, ground.Turn{})
	}
	a, d := movement(100, "A", using("t1")), movement(160, "D", using("t1"))
	for _, x := range badMovements() {
		refused("arrival: "+x.what, x.value, d, 0, 90, x.e)
		refused("arrival and more: "+x.what, x.value, a, -1, -1, x.e)
		departure := changed(x.value, func(m *api.Movement) {
			if m.Kind == "A" {
				m.Kind = "D"
			}
		})
		refused("departure: "+x.what, a, departure, 0, 90, x.e)
		refused("departure and more: "+x.what, a, departure, -1, -1, x.e)
		refused("two departures: "+x.what, d, x.value, 0, 90, api.ErrKind)
	}
	refused("two departures", d, d, 0, 90, api.ErrKind)
	refused("two departures and more", d, d, -1, -1, api.ErrKind)
	refused("two arrivals", a, a, 0, 90, api.ErrKind)
	refused("two arrivals and more", a, a, -1, -1, api.ErrKind)
	refused("exchanged", d, a, 0, 90, api.ErrKind)
	for _, n := range []int{math.MinInt, -1, 10081, math.MaxInt} {
		refused(fmt.Sprint("least ", n), a, d, n, 10080, api.ErrRange)
		refused(fmt.Sprint("most ", n), a, d, 0, n, api.ErrRange)
		refused(fmt.Sprint("least and most ", n), a, d, n, n, api.ErrRange)
		refused(fmt.Sprint("least ", n, " and more"), a, changed(d, withSize(2)), n, 0, api.ErrRange)
	}
	refused("most below least", a, d, 61, 60, api.ErrOrder)
	refused("most below least and more", a, changed(d, withSize(2)), 10080, 0, api.ErrOrder)
	refused("too short", a, d, 61, 90, api.ErrPair)
	refused("too long", a, d, 0, 59, api.ErrPair)
	refused("before it", movement(160, "A"), movement(159, "D"), 0, 10080, api.ErrPair)
	refused("a minute above a week", movement(0, "A"), movement(10081, "D"), 0, 10080, api.ErrPair)
	refused("greater", a, changed(d, withSize(2)), 0, 90, api.ErrPair)
	refused("smaller", changed(a, withSize(8)), changed(d, withSize(9)), 0, 90, api.ErrPair)
	refused("another terminal", a, changed(d, using("t2")), 0, 90, api.ErrPair)
	refused("another letter", a, changed(d, using("T1")), 0, 90, api.ErrPair)
}

// P4.2: what suits a stand.
func TestSuits(t *testing.T) {
	for _, x := range []struct {
		what string
		s    ground.Stand
		t    ground.Turn
		want bool
	}{
		{"one size", stand("s", upTo(4)), turn("x", 5, 9, ofSize(4)), true},
		{"smaller", stand("s", upTo(4)), turn("x", 5, 9, ofSize(3)), true},
		{"greater", stand("s", upTo(4)), turn("x", 5, 9, ofSize(5)), false},
		{"the least size", stand("s", upTo(1)), turn("x", 5, 9, ofSize(1)), true},
		{"the greatest size", stand("s", upTo(9)), turn("x", 5, 9, ofSize(9)), true},
		{"the stand for any", stand("s"), turn("x", 5, 9, at("t1")), true},
		{"the turnaround for any", stand("s", in("t1")), turn("x", 5, 9), true},
		{"one terminal", stand("s", in("t1")), turn("x", 5, 9, at("t1")), true},
		{"two terminals", stand("s", in("t1")), turn("x", 5, 9, at("t2")), false},
		{"another letter", stand("s", in("t1")), turn("x", 5, 9, at("T1")), false},
		{"greater, and any terminal", stand("s", upTo(4)), turn("x", 5, 9, ofSize(5), at("t1")), false},
		{"greater, and at any terminal", stand("s", upTo(4), in("t1")), turn("x", 5, 9, ofSize(5)), false},
		{"greater, and one terminal", stand("s", upTo(4), in("t1")), turn("x", 5, 9, ofSize(5), at("t1")), false},
		{"one name", stand("x"), turn("x", 0, 0), true},
	} {
		got, e := ground.Suits(x.s, x.t)
		is(t, "Suits: "+x.what, e, api.OK)
		is(t, "Suits: "+x.what, got, x.want)
	}
	refused := func(what string, s ground.Stand, u ground.Turn, e api.Errno) {
		t.Helper()
		got, gotE := ground.Suits(s, u)
		is(t, "Suits: "+what, gotE, e)
		is(t, "Suits: "+what, got, false)
	}
	for _, x := range badStands() {
		refused(x.what, x.value, turn("x", 5, 9), x.e)
		refused(x.what+" and a bad turnaround", x.value, turn("x", 9, 5), x.e)
	}
	for _, x := range badTurns() {
		refused(x.what, stand("s"), x.value, x.e)
	}
}

// P4.2: which turnarounds overlap with a buffer.
func TestOverlap(t *testing.T) {
	for _, x := range []struct {
		what   string
		a, b   [2]int
		buffer int
		want   bool
	}{
		{"one behind the other", [2]int{0, 60}, [2]int{60, 100}, 0, false},
		{"one behind the other with a buffer", [2]int{0, 60}, [2]int{60, 100}, 1, true},
		{"a minute between them", [2]int{0, 60}, [2]int{61, 100}, 1, false},
		{"a minute between them with a buffer", [2]int{0, 60}, [2]int{61, 100}, 2, true},
		{"a minute of both", [2]int{0, 60}, [2]int{59, 100}, 0, true},
		{"one within the other", [2]int{0, 60}, [2]int{20, 30}, 0, true},
		{"the same time", [2]int{5, 9}, [2]int{5, 9}, 0, true},
		{"one minute", [2]int{5, 6}, [2]int{5, 6}, 0, true},
		{"an empty one within another one", [2]int{5, 5}, [2]int{0, 9}, 0, false},
		{"an empty one with a buffer", [2]int{5, 5}, [2]int{0, 9}, 1, true},
		{"two empty ones", [2]int{5, 5}, [2]int{5, 5}, 0, false},
		{"two empty ones with a buffer", [2]int{5, 5}, [2]int{5, 5}, 1, true},
		{"an empty one in the buffer of another one", [2]int{5, 5}, [2]int{0, 4}, 240, true},
		{"an empty one at the end of the buffer", [2]int{244, 244}, [2]int{0, 4}, 240, false},
		{"an empty one at the end of the other one", [2]int{9, 9}, [2]int{0, 9}, 0, false},
		{"the greatest buffer", [2]int{0, 10}, [2]int{249, 300}, 240, true},
		{"behind the greatest buffer", [2]int{0, 10}, [2]int{250, 300}, 240, false},
		{"all time", [2]int{0, 143999999}, [2]int{143999998, 143999999}, 0, true},
		{"the last moment", [2]int{143999999, 143999999}, [2]int{143999999, 143999999}, 1, true},
		{"the last moment of one", [2]int{0, 143999999}, [2]int{143999999, 143999999}, 0, false},
	} {
		a, b := turn("a", x.a[0], x.a[1]), turn("b", x.b[0], x.b[1])
		for _, pair := range [][2]ground.Turn{{a, b}, {b, a}} {
			got, e := ground.Overlap(pair[0], pair[1], x.buffer)
			is(t, "Overlap: "+x.what, e, api.OK)
			is(t, "Overlap: "+x.what, got, x.want)
		}
	}
	a := turn("a", 5, 9)
	is(t, "Overlap with itself", ok[bool](t)(ground.Overlap(a, a, 0)), true)
	is(t, "Overlap of two sizes and terminals", ok[bool](t)(ground.Overlap(turn("a", 5, 9, ofSize(9), at("t1")), turn("b", 5, 9, at("t2")), 0)), true)
}

// P4.2: the errors of Overlap, in their order.
func TestBadOverlaps(t *testing.T) {
	refused := func(what string, a, b ground.Turn, buffer int, e api.Errno) {
		t.Helper()
		got, gotE := ground.Overlap(a, b, buffer)
		is(t, "Overlap: "+what, gotE, e)
		is(t, "Overlap: "+what, got, false)
	}
	good := turn("a", 5, 9)
	for _, x := range badTurns() {
		refused("first: "+x.what, x.value, good, 0, x.e)
		refused("first and more: "+x.what, x.value, turn("", 9, 5), -1, x.e)
		refused("second: "+x.what, good, x.value, 0, x.e)
		refused("second and more: "+x.what, good, x.value, -1, x.e)
	}
	refused("two errors", turn("a", 9, 5), turn("", 9, 5), -1, api.ErrOrder)
	for _, n := range noBuffers {
		refused(fmt.Sprint("buffer ", n), good, good, n, api.ErrRange)
	}
}
