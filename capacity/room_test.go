package capacity_test

import (
	"fmt"
	"math"
	"slices"
	"testing"

	"turnround/api"
	"turnround/capacity"
)

func list(limits ...capacity.Limit) []capacity.Limit { return limits }

// from returns the numbers from one to another.
func from(least, most int) []int {
	var all []int
	for n := least; n <= most; n++ {
		all = append(all, n)
	}
	return all
}

// P3.3: the room for a movement, and the full windows that refuse it.
func TestRoomAndFull(t *testing.T) {
	t1 := departure(3300)
	t1.Terminal = "t1"
	for _, x := range []struct {
		what string
		l    []capacity.Limit
		m    []api.Movement
		one  api.Movement
		room int
		full []capacity.Window
	}{
		{"the second window", list(day()), three(), arrival(3300), 0, []capacity.Window{{Begin: 3270, Count: 2}}},
		{"the third window alone", list(day()), three(), arrival(3330), 2, nil},
		{"the last minute of the third window", list(day()), three(), arrival(3359), 2, nil},
		{"no window", list(day()), three(), arrival(3360), 999999999, nil},
		{"no window before", list(day()), three(), arrival(3239), 999999999, nil},
		{"the first minute of the first window", list(day(atMost(4))), three(), arrival(3240), 1, nil},
		{"an exceeded and a full window", list(day()), three(), arrival(3275), 0, []capacity.Window{{Begin: 3240, Count: 3}, {Begin: 3270, Count: 2}}},
		{"one of those counted", list(day()), three(), three()[0], 0, []capacity.Window{{Begin: 3240, Count: 3}}},
		{"another day", list(day()), three(), arrival(4680), 2, nil},
		{"a day that is none of the period", list(day(on(2, 20, 1))), three(), arrival(4690), 999999999, nil},
		{"no limits", nil, three(), arrival(3300), 999999999, nil},
		{"no movements", list(day()), nil, arrival(3300), 2, nil},
		{"a limit of 0", list(day(atMost(0))), nil, arrival(3300), 0, []capacity.Window{{Begin: 3270}, {Begin: 3300}}},
		{"the greatest limit", list(day(atMost(999999999))), nil, arrival(3300), 999999999, nil},
		{"the greatest limit with a movement", list(day(atMost(999999999))), arrivals(3301), arrival(3300), 999999998, nil},
		{"another kind", list(day(ofKind("D"))), three(), arrival(3300), 999999999, nil},
		{"another kind of movements", list(day(ofKind("D"))), three(), departure(3300), 2, nil},
		{"another terminal", list(day(in("t2"))), three(), t1, 999999999, nil},
		{"another terminal of movements", list(day(in("t1"))), three(), t1, 2, nil},
		{"no terminal", list(day(in("t1"))), three(), arrival(3300), 999999999, nil},
		{"all terminals", list(day()), three(), t1, 0, []capacity.Window{{Begin: 3270, Count: 2}}},
		{"the least room of several limits", list(day(atMost(7)), day(named("b"), atMost(4)), day(named("c"), atMost(5))), three(), arrival(3290), 1, nil},
		{"the least room of several windows", list(day(atMost(7))), three(), arrival(3290), 4, nil},
		{"the least room of later windows", list(day(atMost(7))), arrivals(3245, 3300, 3301), arrival(3299), 5, nil},
		{"several limits", list(day(atMost(3)), day(named("b"), ofKind("D"), atMost(0)), day(named("c"), lasting(30), atMost(2))), three(), arrival(3290), 0,
			[]capacity.Window{{Limit: 0, Begin: 3240, Count: 3}, {Limit: 2, Begin: 3270, Count: 2}}},
		{"a limit behind one that does not count", list(day(ofKind("D"), atMost(0)), day(named("b"))), three(), arrival(3300), 0, []capacity.Window{{Limit: 1, Begin: 3270, Count: 2}}},
		{"past midnight", list(late(atMost(1))), arrivals(4310), arrival(4369), 0, []capacity.Window{{Begin: 4310, Count: 1}}},
		{"after it", list(late(atMost(1))), arrivals(4310), arrival(4370), 999999999, nil},
		{"the first moment", list(day(lasting(1440), every(1, 0, 1439), on(0, 0, 127))), arrivals(0, 1439), arrival(0), 0, []capacity.Window{{Begin: 0, Count: 2}}},
		{"the last moment", list(day(lasting(3), every(1, 0, 1439), on(99990, 99999, 127), atMost(1))), arrivals(143999998), arrival(143999999), 0,
			[]capacity.Window{{Begin: 143999997, Count: 1}, {Begin: 143999998, Count: 1}}},
	} {
		room, e := capacity.Room(x.l, x.m, x.one)
		is(t, "Room: "+x.what, e, api.OK)
		is(t, "Room: "+x.what, room, x.room)
		full, e := capacity.Full(x.l, x.m, x.one)
		is(t, "Full: "+x.what, e, api.OK)
		isList(t, "Full: "+x.what, full, x.full)
	}
	each := list(day(lasting(1440), every(1, 0, 1439), on(2, 9, 127), atMost(0)))
	full, e := capacity.Full(each, nil, arrival(5000))
	is(t, "Full of 1440 windows", e, api.OK)
	is(t, "Full of 1440 windows", len(full), 1440)
	is(t, "the first one of 1440 windows", full[0], capacity.Window{Begin: 3561})
	is(t, "the last one of 1440 windows", full[1439], capacity.Window{Begin: 5000})
}

// P3.3: each error of Room and Full: of the limits, of the movements, then of the movement.
func TestBadRooms(t *testing.T) {
	refused := func(what string, l []capacity.Limit, m []api.Movement, one api.Movement, e api.Errno) {
		t.Helper()
		room, gotE := capacity.Room(l, m, one)
		is(t, "Room: "+what, gotE, e)
		is(t, "Room: "+what, room, 0)
		full, gotE := capacity.Full(l, m, one)
		is(t, "Full: "+what, gotE, e)
		isList(t, "Full: "+what, full, nil)
	}
	for _, x := range badLists() {
		refused(x.what, x.value, three(), arrival(3300), x.e)
		refused(x.what, x.value, arrivals(-1), arrival(-1), x.e)
	}
	for _, x := range badLimits() {
		refused(x.what, list(x.value), arrivals(6, 5), api.Movement{}, x.e)
	}
	for _, x := range badTraffic() {
		refused(x.what, list(day()), x.value, arrival(3300), x.e)
		refused(x.what, list(day()), x.value, arrival(-1), x.e)
		refused(x.what, nil, x.value, api.Movement{}, x.e)
	}
	for _, x := range badMovements() {
		refused(x.what, list(day()), three(), x.value, x.e)
		refused(x.what, nil, nil, x.value, x.e)
	}
}

// P3.3: the minutes at which a request fits, and the nearest ones.
func TestFree(t *testing.T) {
	rest := slices.Concat(from(0, 359), from(450, 1439))
	atT1 := func(r *api.Request) { r.Terminal = "t1" }
	departures := func(r *api.Request) { r.Kind = "D" }
	for _, x := range []struct {
		what        string
		l           []capacity.Limit
		m           []api.Movement
		r           api.Request
		least, most int
		free        []int
	}{
		{"the example", list(day()), three(), request(), 350, 450, append(from(350, 359), 450)},
		{"all day", list(day()), three(), request(), 0, 1439, rest},
		{"with more room", list(day(atMost(3))), three(), request(), 350, 450, append(from(350, 359), from(420, 450)...)},
		{"departures alone", list(day(ofKind("D"))), three(), request(), 350, 450, from(350, 450)},
		{"departures beside arrivals", list(day(ofKind("D"), atMost(1))), append(three(), departure(3330)), request(departures), 350, 450, from(350, 419)},
		{"another terminal", list(day(in("t1"))), three(), request(atT1), 350, 450, from(350, 450)},
		{"of another terminal", list(day(in("t1"), atMost(0))), three(), request(), 350, 450, from(350, 450)},
		{"a terminal", list(day(in("t1"), atMost(0))), nil, request(atT1), 350, 450, from(350, 359)},
		{"no limits", nil, three(), request(), 350, 450, from(350, 450)},
		{"no movements", list(day()), nil, request(), 350, 450, from(350, 450)},
		{"no days", list(day(atMost(0))), three(), request(onDays(2, 3, 64)), 350, 450, from(350, 450)},
		{"no room at all", list(day(lasting(1440), every(1, 0, 1439), atMost(0))), nil, request(), 0, 1439, nil},
		{"the second day alone", list(day()), three(), request(onDays(3, 3, 127)), 350, 450, from(350, 450)},
		{"the second day is full", list(day(atMost(1))), arrivals(4750), request(), 350, 490, append(from(350, 389), from(480, 490)...)},
		{"different times on both days", list(day(atMost(1), every(30, 360, 480))), arrivals(3240, 4799), request(), 350, 550, slices.Concat(from(350, 359), from(510, 550))},
		{"a day between is not requested", list(day(on(2, 9, 127), atMost(1))), arrivals(3250, 4690, 6130), request(onDays(2, 4, 2)), 350, 450, append(from(350, 359), from(420, 450)...)},
		{"a day of the request is none of the limit", list(day(on(2, 9, 1), atMost(0))), nil, request(onDays(3, 8, 127)), 350, 450, from(350, 450)},
		{"one minute", list(day()), three(), request(), 359, 359, from(359, 359)},
		{"one other minute", list(day()), three(), request(), 360, 360, nil},
		{"one minute at the end", list(day()), three(), request(), 449, 449, nil},
		{"a window that is full by its first minute", list(day(atMost(1))), arrivals(3240), request(onDays(2, 2, 127)), 419, 450, from(420, 450)},
		{"a window that is full by its last minute", list(day(atMost(1))), arrivals(3359), request(onDays(2, 2, 127)), 350, 420, from(350, 419)},
		{"past midnight", list(late(on(1, 3, 127), atMost(1))), arrivals(2875, 4345), request(), 0, 1439, from(50, 1429)},
		{"past midnight of the last day", list(late(on(3, 3, 127), atMost(0))), nil, request(onDays(4, 4, 127)), 0, 1439, from(50, 1439)},
		{"gaps between windows", list(day(lasting(10), atMost(0))), nil, request(), 355, 435, slices.Concat(from(355, 359), from(370, 389), from(400, 419), from(430, 435))},
		{"two limits", list(day(lasting(10), atMost(0)), day(named("b"), lasting(5), every(15, 360, 400), atMost(0))), nil, request(), 355, 435,
			slices.Concat(from(355, 359), from(370, 374), from(380, 389), from(400, 419), from(430, 435))},
		{"the last minute of all", list(day(every(1439, 1, 1439), on(99999, 99999, 127), atMost(0))), nil, request(onDays(99999, 99999, 127)), 1430, 1439, from(1430, 1438)},
		{"the first minute of all", list(day(every(30, 0, 0), on(0, 0, 127), atMost(0))), nil, request(onDays(0, 0, 127)), 0, 70, from(60, 70)},
	} {
		for _, minute := range []int{x.least, x.most, (x.least + x.most) / 2, 0, 1439, 380} {
			r := x.r
			r.Minute = minute
			what := fmt.Sprint(x.what, " at ", minute)
			free, e := capacity.Free(x.l, x.m, r, x.least, x.most)
			is(t, "Free: "+what, e, api.OK)
			isList(t, "Free: "+what, free, x.free)
			nearest, e := capacity.Nearest(x.l, x.m, r, x.least, x.most)
			is(t, "Nearest: "+what, e, api.OK)
			is(t, "Nearest: "+what, nearest, nearestOf(x.free, minute))
			if x.least <= minute && minute <= x.most {
				fits, e := capacity.Fits(x.l, x.m, r)
				is(t, "Fits: "+what, e, api.OK)
				is(t, "Fits: "+what, fits, slices.Contains(x.free, minute))
			}
		}
	}
}

// P3.3: the nearest minutes are on either side of the minute of the request, which may be outside of the given ones.
func TestNearest(t *testing.T) {
	for _, x := range []struct {
		minute, least, most int
		want                [2]int
	}{
		{380, 350, 450, [2]int{359, 450}},
		{380, 360, 449, [2]int{-1, -1}},
		{380, 350, 449, [2]int{359, -1}},
		{380, 360, 450, [2]int{-1, 450}},
		{355, 350, 450, [2]int{355, 355}},
		{359, 350, 450, [2]int{359, 359}},
		{360, 350, 450, [2]int{359, 450}},
		{449, 350, 450, [2]int{359, 450}},
		{450, 350, 450, [2]int{450, 450}},
		{460, 350, 450, [2]int{450, -1}},
		{340, 350, 450, [2]int{-1, 350}},
		{0, 0, 0, [2]int{0, 0}},
		{1439, 1439, 1439, [2]int{1439, 1439}},
		{1439, 0, 0, [2]int{0, -1}},
		{0, 1439, 1439, [2]int{-1, 1439}},
		{380, 0, 1439, [2]int{359, 450}},
	} {
		got, e := capacity.Nearest(list(day()), three(), request(at(x.minute)), x.least, x.most)
		is(t, fmt.Sprint("Nearest ", x), e, api.OK)
		is(t, fmt.Sprint("Nearest ", x), got, x.want)
	}
}

// P3.3: each error of Fits, Free and Nearest: of the limits, of the movements, of the request, then of the minutes.
func TestBadFits(t *testing.T) {
	refused := func(what string, l []capacity.Limit, m []api.Movement, r api.Request, least, most int, e api.Errno) {
		t.Helper()
		free, gotE := capacity.Free(l, m, r, least, most)
		is(t, "Free: "+what, gotE, e)
		isList(t, "Free: "+what, free, nil)
		nearest, gotE := capacity.Nearest(l, m, r, least, most)
		is(t, "Nearest: "+what, gotE, e)
		is(t, "Nearest: "+what, nearest, [2]int{})
	}
	all := func(what string, l []capacity.Limit, m []api.Movement, r api.Request, e api.Errno) {
		t.Helper()
		refused(what, l, m, r, 350, 450, e)
		refused(what, l, m, r, 450, 350, e)
		refused(what, l, m, r, -1, math.MaxInt, e)
		fits, gotE := capacity.Fits(l, m, r)
		is(t, "Fits: "+what, gotE, e)
		is(t, "Fits: "+what, fits, false)
	}
	for _, x := range badLists() {
		all(x.what, x.value, three(), request(), x.e)
		all(x.what, x.value, arrivals(-1), api.Request{}, x.e)
	}
	for _, x := range badLimits() {
		all(x.what, list(x.value), arrivals(6, 5), api.Request{}, x.e)
	}
	for _, x := range badTraffic() {
		all(x.what, list(day()), x.value, request(), x.e)
		all(x.what, nil, x.value, request(at(-1)), x.e)
	}
	for _, x := range badRequests() {
		all(x.what, list(day()), three(), x.value, x.e)
		all(x.what, nil, nil, x.value, x.e)
	}
	for _, n := range noMinutes {
		refused(fmt.Sprint("least ", n), list(day()), three(), request(), n, 450, api.ErrRange)
		refused(fmt.Sprint("most ", n), list(day()), three(), request(), 350, n, api.ErrRange)
		refused(fmt.Sprint("both ", n), nil, nil, request(), n, n, api.ErrRange)
	}
	refused("the wrong order", list(day()), three(), request(), 450, 350, api.ErrOrder)
	refused("the wrong order by one", nil, nil, request(), 1, 0, api.ErrOrder)
	refused("the wrong order from end to end", nil, nil, request(), 1439, 0, api.ErrOrder)
}

// P3.3: the carrier, the partner and the link of a request are not examined.
func TestFitsForNoCarrier(t *testing.T) {
	r := request(at(359), func(r *api.Request) { r.Carrier, r.Partner, r.Link = "1", "\xff", "x" })
	fits, e := capacity.Fits(list(day()), three(), r)
	is(t, "Fits", e, api.OK)
	is(t, "Fits", fits, true)
}

// P3.3: room and free minutes are those of the definition, for limits, movements and requests of many forms.
func TestRoomAsTheModelSays(t *testing.T) {
	x := noise(31)
	refused, allowed := 0, 0
	for n := range 400 {
		s := x.scene()
		windows := windowsOf(s.limits, s.movements)
		for range 5 {
			one := x.movement()
			room, e := capacity.Room(s.limits, s.movements, one)
			is(t, "Room", e, api.OK)
			is(t, fmt.Sprint("Room ", n), room, roomOf(s.limits, windows, one))
			full, e := capacity.Full(s.limits, s.movements, one)
			is(t, "Full", e, api.OK)
			isList(t, fmt.Sprint("Full ", n), full, fullOf(s.limits, windows, one))
		}
		least := x.next(1440)
		most := min(1439, least+x.next(100))
		s.request.Minute = pick(&x, least, x.next(1440), least+x.next(most-least+1))
		want := freeOf(s.limits, windows, s.request, least, most)
		free, e := capacity.Free(s.limits, s.movements, s.request, least, most)
		is(t, "Free", e, api.OK)
		isList(t, fmt.Sprint("Free ", n), free, want)
		nearest, e := capacity.Nearest(s.limits, s.movements, s.request, least, most)
		is(t, "Nearest", e, api.OK)
		is(t, fmt.Sprint("Nearest ", n), nearest, nearestOf(want, s.request.Minute))
		fit, e := capacity.Fits(s.limits, s.movements, s.request)
		is(t, "Fits", e, api.OK)
		is(t, fmt.Sprint("Fits ", n), fit, fits(s.limits, windows, s.request))
		if len(want) < most-least+1 {
			refused++
		}
		if len(want) > 0 {
			allowed++
		}
	}
	is(t, "some minutes are refused, and some are free", refused > 100 && allowed > 200, true)
}
