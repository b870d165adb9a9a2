package ground_test

import (
	"fmt"
	"math"
	"slices"
	"testing"

	"turnround/api"
	"turnround/ground"
)

// limit is the limit of the chapter's examples, with changes.
func limit(changes ...func(*ground.SeatLimit)) ground.SeatLimit {
	return changed(ground.SeatLimit{Kind: "A", Length: 60, Step: 30, Most: 320}, changes...)
}

func ofKind(kind string) func(*ground.SeatLimit) {
	return func(l *ground.SeatLimit) { l.Kind = kind }
}

func forTerminal(terminal string) func(*ground.SeatLimit) {
	return func(l *ground.SeatLimit) { l.Terminal = terminal }
}

func lasting(length, step int) func(*ground.SeatLimit) {
	return func(l *ground.SeatLimit) { l.Length, l.Step = length, step }
}

func atMost(most int) func(*ground.SeatLimit) {
	return func(l *ground.SeatLimit) { l.Most = most }
}

// three has the movements of the chapter's examples.
func three() []api.Movement {
	return list(movement(10, "A", withSeats(100), called("a")), movement(40, "A", withSeats(200), called("b")), movement(70, "A", withSeats(150), called("c")))
}

// badLimits has limits with each error, and with later errors beside it.
func badLimits() []bad[ground.SeatLimit] {
	var all []bad[ground.SeatLimit]
	add := func(what string, e api.Errno, changes ...func(*ground.SeatLimit)) {
		all = append(all, bad[ground.SeatLimit]{what, limit(changes...), e})
	}
	for _, s := range noNames {
		add("terminal "+s, api.ErrForm, forTerminal(s))
		add("terminal "+s+" and more", api.ErrForm, forTerminal(s), ofKind(""), lasting(0, 0), atMost(-1))
	}
	for _, s := range []string{"", "a", "t", "AD", "T ", "\x00"} {
		add("kind "+s, api.ErrKind, ofKind(s))
		add("kind "+s+" and more", api.ErrKind, ofKind(s), lasting(0, 0), atMost(-1))
	}
	for _, n := range []int{math.MinInt, -1, 0, 1441, math.MaxInt} {
		add(fmt.Sprint("length ", n), api.ErrRange, lasting(n, 1))
		add(fmt.Sprint("length and step ", n), api.ErrRange, lasting(n, n))
		add(fmt.Sprint("step ", n), api.ErrRange, lasting(1440, n))
	}
	add("a step above the length", api.ErrRange, lasting(1, 2))
	add("a step above a longer length", api.ErrRange, lasting(1439, 1440))
	for _, n := range []int{math.MinInt, -1, 1000000000, math.MaxInt} {
		add(fmt.Sprint("most ", n), api.ErrRange, atMost(n))
	}
	return all
}

// badLimitLists has lists of limits with an error.
func badLimitLists() []bad[[]ground.SeatLimit] {
	all := []bad[[]ground.SeatLimit]{
		{"33 limits", slices.Repeat(list(limit()), 33), api.ErrMany},
		{"33 empty limits", make([]ground.SeatLimit, 33), api.ErrMany},
	}
	for _, x := range badLimits() {
		all = append(all,
			bad[[]ground.SeatLimit]{x.what, list(x.value), x.e},
			bad[[]ground.SeatLimit]{x.what + " behind another one", list(limit(), x.value, limit(forTerminal("1")), limit(ofKind(""))), x.e},
		)
	}
	return all
}

// P4.1: the errors of seat limits, in their order.
func TestCheckSeats(t *testing.T) {
	is(t, "CheckSeats of nothing", ground.CheckSeats(nil), api.OK)
	is(t, "CheckSeats of 32 that are equal", ground.CheckSeats(slices.Repeat(list(limit()), 32)), api.OK)
	for _, s := range names {
		is(t, "CheckSeats of the terminal "+s, ground.CheckSeats(list(limit(forTerminal(s)))), api.OK)
	}
	for _, l := range []ground.SeatLimit{
		limit(ofKind("A")), limit(ofKind("D")), limit(ofKind("T")),
		limit(lasting(1, 1)), limit(lasting(1440, 1)), limit(lasting(1440, 1440)), limit(lasting(7, 5)),
		limit(atMost(0)), limit(atMost(999999999)),
	} {
		is(t, fmt.Sprint("CheckSeats of ", l), ground.CheckSeats(list(l)), api.OK)
	}
	for _, x := range badLimitLists() {
		is(t, "CheckSeats: "+x.what, ground.CheckSeats(x.value), x.e)
	}
}

// mixed has movements of both kinds and several terminals, not in the order of their moments.
func mixed() []api.Movement {
	return list(
		movement(50, "D", withSeats(4), using("t1")), movement(10, "A", withSeats(1)), movement(20, "A", withSeats(2), using("t1")),
		movement(20, "A", withSeats(16), using("t2")), movement(40, "D", withSeats(8)), movement(20, "A", withSeats(2), using("t1")),
	)
}

// P4.4: the seats of a window, also of one that begins between the steps.
func TestSeats(t *testing.T) {
	for _, x := range []struct {
		what   string
		l      ground.SeatLimit
		m      []api.Movement
		moment int
		want   int
	}{
		{"the window at 0", limit(), three(), 0, 300},
		{"the window at 30", limit(), three(), 30, 350},
		{"between the steps", limit(), three(), 11, 350},
		{"the last moment of a window", limit(lasting(31, 1)), three(), 10, 300},
		{"behind the last moment of a window", limit(lasting(30, 1)), three(), 10, 100},
		{"from its first moment on", limit(), three(), 10, 300},
		{"the window at 60", limit(), three(), 60, 150},
		{"behind all", limit(), three(), 71, 0},
		{"no movements", limit(), nil, 0, 0},
		{"a day", limit(lasting(1440, 1440)), three(), 0, 450},
		{"a minute", limit(lasting(1, 1)), three(), 40, 200},
		{"the last moment", limit(), list(movement(143999999, "A", withSeats(7))), 143999999, 7},
		{"arrivals", limit(), mixed(), 0, 21},
		{"departures", limit(ofKind("D")), mixed(), 0, 12},
		{"both", limit(ofKind("T")), mixed(), 0, 33},
		{"arrivals of a terminal", limit(forTerminal("t1")), mixed(), 0, 4},
		{"departures of a terminal", limit(ofKind("D"), forTerminal("t1")), mixed(), 0, 4},
		{"both of a terminal", limit(ofKind("T"), forTerminal("t1")), mixed(), 0, 8},
		{"another terminal", limit(ofKind("T"), forTerminal("t3")), mixed(), 0, 0},
		{"two movements that are equal", limit(lasting(1, 1), forTerminal("t1")), mixed(), 20, 4},
		{"256 movements", limit(), slices.Repeat(list(movement(5, "A", withSeats(999))), 256), 0, 255744},
	} {
		got, e := ground.Seats(x.l, x.m, x.moment)
		is(t, "Seats: "+x.what, e, api.OK)
		is(t, "Seats: "+x.what, got, x.want)
	}
	refused := func(what string, l ground.SeatLimit, m []api.Movement, moment int, e api.Errno) {
		t.Helper()
		got, gotE := ground.Seats(l, m, moment)
		is(t, "Seats: "+what, gotE, e)
		is(t, "Seats: "+what, got, 0)
	}
	for _, x := range badLimits() {
		refused(x.what, x.value, three(), 0, x.e)
		refused(x.what+" and more", x.value, make([]api.Movement, 257), -1, x.e)
	}
	for _, x := range badMovementLists() {
		refused(x.what, limit(), x.value, 0, x.e)
		refused(x.what+" and more", limit(), x.value, -1, x.e)
	}
	for _, n := range noMoments {
		refused(fmt.Sprint("moment ", n), limit(), three(), n, api.ErrRange)
	}
}

// P4.4: the first exceeded window.
func TestExceeded(t *testing.T) {
	end := list(movement(143999999, "A", withSeats(7)))
	for _, x := range []struct {
		what string
		l    []ground.SeatLimit
		m    []api.Movement
		want ground.Window
	}{
		{"the example", list(limit()), three(), ground.Window{Moment: 30, Seats: 350}},
		{"one seat above the limit", list(limit(atMost(349))), three(), ground.Window{Moment: 30, Seats: 350}},
		{"the first one of several", list(limit(atMost(299))), three(), ground.Window{Moment: 0, Seats: 300}},
		{"the first limit", list(limit(atMost(400)), limit(), limit(atMost(0))), three(), ground.Window{Limit: 1, Moment: 30, Seats: 350}},
		{"the first limit, not the first moment", list(limit(atMost(349)), limit(atMost(0))), three(), ground.Window{Moment: 30, Seats: 350}},
		{"the last one of 32 limits", append(slices.Repeat(list(limit(atMost(999999999))), 31), limit()), three(), ground.Window{Limit: 31, Moment: 30, Seats: 350}},
		{"not in the order of moments", list(limit()), list(three()[2], three()[0], three()[1]), ground.Window{Moment: 30, Seats: 350}},
		{"each minute", list(limit(lasting(60, 1))), three(), ground.Window{Moment: 11, Seats: 350}},
		{"the first window with a movement", list(limit(lasting(60, 1), atMost(0))), list(movement(90, "A", withSeats(1))), ground.Window{Moment: 31, Seats: 1}},
		{"steps that do not divide the day", list(limit(lasting(60, 50), atMost(0))), list(movement(1470, "A", withSeats(1))), ground.Window{Moment: 1450, Seats: 1}},
		{"steps that do not divide the length", list(limit(lasting(7, 5), atMost(0))), list(movement(21, "A", withSeats(1))), ground.Window{Moment: 15, Seats: 1}},
		{"behind the window before", list(limit(lasting(7, 5), atMost(0))), list(movement(22, "A", withSeats(1))), ground.Window{Moment: 20, Seats: 1}},
		{"at the first moment", list(limit(lasting(1440, 1), atMost(0))), list(movement(0, "A", withSeats(1))), ground.Window{Moment: 0, Seats: 1}},
		{"at the last moment", list(limit(lasting(10, 7), atMost(6))), end, ground.Window{Moment: 143999996, Seats: 7}},
		{"at the last moment alone", list(limit(lasting(1, 1), atMost(6))), end, ground.Window{Moment: 143999999, Seats: 7}},
		{"a later one", list(limit(atMost(400))), append(three(), movement(5000, "A", withSeats(401))), ground.Window{Moment: 4950, Seats: 401}},
		{"departures", list(limit(ofKind("D"), atMost(11))), mixed(), ground.Window{Moment: 0, Seats: 12}},
		{"a terminal", list(limit(atMost(21)), limit(forTerminal("t1"), atMost(3))), mixed(), ground.Window{Limit: 1, Moment: 0, Seats: 4}},
	} {
		got, e := ground.Exceeded(x.l, x.m)
		is(t, "Exceeded: "+x.what, e, api.OK)
		is(t, "Exceeded: "+x.what, got, x.want)
	}
	for _, x := range []struct {
		what string
		l    []ground.SeatLimit
		m    []api.Movement
	}{
		{"as many as the limit", list(limit(atMost(350))), three()},
		{"no limits", nil, three()},
		{"no movements", list(limit(atMost(0))), nil},
		{"no seats", list(limit(atMost(0))), list(movement(5, "A"))},
		{"another kind", list(limit(ofKind("D"), atMost(0))), three()},
		{"another terminal", list(limit(forTerminal("t1"), atMost(0))), three()},
		{"windows between the steps", list(limit(lasting(60, 60))), three()},
	} {
		got, e := ground.Exceeded(x.l, x.m)
		is(t, "Exceeded: "+x.what, e, api.ErrNone)
		is(t, "Exceeded: "+x.what, got, ground.Window{})
	}
}

// P4.4: the errors of Exceeded and Room, in their order.
func TestBadHalls(t *testing.T) {
	refused := func(what string, l []ground.SeatLimit, m []api.Movement, one api.Movement, e api.Errno) {
		t.Helper()
		room, gotE := ground.Room(l, m, one)
		is(t, "Room: "+what, gotE, e)
		is(t, "Room: "+what, room, 0)
	}
	both := func(what string, l []ground.SeatLimit, m []api.Movement, e api.Errno) {
		t.Helper()
		w, gotE := ground.Exceeded(l, m)
		is(t, "Exceeded: "+what, gotE, e)
		is(t, "Exceeded: "+what, w, ground.Window{})
		refused(what, l, m, movement(20, "A"), e)
		refused(what+" and more", l, m, api.Movement{}, e)
	}
	for _, x := range badLimitLists() {
		both(x.what, x.value, three(), x.e)
		both(x.what+" and more", x.value, make([]api.Movement, 257), x.e)
	}
	for _, x := range badMovementLists() {
		both(x.what, list(limit()), x.value, x.e)
		both(x.what+" and no limits", nil, x.value, x.e)
	}
	for _, x := range badMovements() {
		refused(x.what, list(limit()), three(), x.value, x.e)
		refused(x.what+" and no limits", nil, three(), x.value, x.e)
	}
	for _, x := range []struct {
		what string
		l    []ground.SeatLimit
		m    api.Movement
	}{
		{"no limits", nil, movement(20, "A")},
		{"another kind", list(limit()), movement(20, "D")},
		{"another terminal", list(limit(forTerminal("t1"))), movement(20, "A", using("t2"))},
		{"no terminal", list(limit(forTerminal("t1"))), movement(20, "A")},
		{"the kind or the terminal", list(limit(forTerminal("t1")), limit(ofKind("D"))), movement(20, "A", using("t2"))},
	} {
		refused(x.what, x.l, three(), x.m, api.ErrNone)
	}
}

// P4.4: the room for a further movement.
func TestRoom(t *testing.T) {
	wide := limit(atMost(400))
	for _, x := range []struct {
		what string
		l    []ground.SeatLimit
		m    []api.Movement
		one  api.Movement
		want int
	}{
		{"at 20", list(wide), three(), movement(20, "A"), 100},
		{"at 29", list(wide), three(), movement(29, "A"), 100},
		{"at 30", list(wide), three(), movement(30, "A"), 50},
		{"at 45", list(wide), three(), movement(45, "A"), 50},
		{"at 60", list(wide), three(), movement(60, "A"), 50},
		{"at 90", list(wide), three(), movement(90, "A"), 250},
		{"at 120", list(wide), three(), movement(120, "A"), 400},
		{"its own seats", list(wide), three(), movement(20, "A", withSeats(999)), 100},
		{"one that is there", list(wide), three(), three()[0], 100},
		{"an exceeded window", list(limit(atMost(200))), three(), movement(20, "A"), 0},
		{"a full window", list(limit(atMost(300))), three(), movement(20, "A"), 0},
		{"one seat", list(limit(atMost(301))), three(), movement(20, "A"), 1},
		{"998 seats", list(limit(atMost(1298))), three(), movement(20, "A"), 998},
		{"999 seats", list(limit(atMost(1299))), three(), movement(20, "A"), 999},
		{"more than 999 seats", list(limit(atMost(1300))), three(), movement(20, "A"), 999},
		{"the greatest limit", list(limit(atMost(999999999))), three(), movement(20, "A"), 999},
		{"a limit of 0", list(limit(atMost(0))), nil, movement(20, "A"), 0},
		{"the least room of several limits", list(limit(atMost(390)), limit(atMost(310)), limit(atMost(320))), three(), movement(20, "A"), 10},
		{"limits of other movements", list(limit(ofKind("D"), atMost(0)), wide, limit(forTerminal("t1"), atMost(0))), three(), movement(20, "A"), 100},
		{"a limit of both kinds", list(limit(ofKind("T"), atMost(400))), three(), movement(20, "D"), 100},
		{"a limit of a terminal", list(limit(forTerminal("t1"), atMost(10))), mixed(), movement(20, "A", using("t1")), 6},
		{"limits of a terminal and of all", list(limit(forTerminal("t1"), atMost(10)), limit(atMost(24))), mixed(), movement(20, "A", using("t1")), 3},
		{"each minute", list(limit(lasting(60, 1), atMost(400))), three(), movement(20, "A"), 50},
		{"steps as long as windows", list(limit(lasting(60, 60), atMost(400))), three(), movement(59, "A"), 100},
		{"the first moment", list(limit(lasting(1440, 1), atMost(400))), list(movement(1439, "A", withSeats(9)), movement(1440, "A", withSeats(90))), movement(0, "A"), 391},
		{"the last moment", list(limit(lasting(1440, 1), atMost(400))), list(movement(143998560, "A", withSeats(9)), movement(143998559, "A", withSeats(90))), movement(143999999, "A"), 391},
		{"not in the order of moments", list(wide), list(three()[2], three()[1], three()[0]), movement(45, "A"), 50},
	} {
		got, e := ground.Room(x.l, x.m, x.one)
		is(t, "Room: "+x.what, e, api.OK)
		is(t, "Room: "+x.what, got, x.want)
	}
}

// P4.4: seats, exceeded windows and room are those of the definition.
func TestHallsByDefinition(t *testing.T) {
	x := noise(54)
	seen := map[string]int{}
	for n := range 2000 {
		h := x.hall()
		what := fmt.Sprint("hall ", n, " ", h)
		for _, l := range h.limits {
			begin := x.next(hallEnd)
			is(t, fmt.Sprint("Seats at ", begin, " in ", what), ok[int](t)(ground.Seats(l, h.movements, begin)), seatsOf(l, h.movements, begin))
		}
		all := exceededOf(h.limits, h.movements)
		w, e := ground.Exceeded(h.limits, h.movements)
		if len(all) == 0 {
			seen["not exceeded"]++
			is(t, "Exceeded in "+what, e, api.ErrNone)
			is(t, "Exceeded in "+what, w, ground.Window{})
		} else {
			seen["exceeded"]++
			is(t, "Exceeded in "+what, e, api.OK)
			is(t, "Exceeded in "+what, w, all[0])
		}
		want, wantE := roomOf(h)
		room, e := ground.Room(h.limits, h.movements, h.m)
		is(t, "Room in "+what, e, wantE)
		is(t, "Room in "+what, room, want)
		switch {
		case wantE == api.ErrNone:
			seen["no limit"]++
		case want == 0:
			seen["no room"]++
		case want == 999:
			seen["much room"]++
		default:
			seen["room"]++
		}
	}
	for _, s := range []string{"not exceeded", "exceeded", "no limit", "no room", "much room", "room"} {
		is(t, fmt.Sprint(s, " in some: ", seen[s]), seen[s] > 50, true)
	}
}
