package ground_test

import (
	"fmt"
	"slices"
	"testing"

	"turnround/api"
	"turnround/ground"
)

// P4.6: an assignment is accepted, and a lack means that there is none.
func TestAssignmentsAndLacks(t *testing.T) {
	x := noise(61)
	accepted, lacking, neither := 0, 0, 0
	for n := range 3000 {
		s := x.scene(x.next(7), x.next(9))
		what := fmt.Sprint("scene ", n, " ", s)
		a, e := ground.Assign(s.stands, s.turns, s.buffer)
		lack, eLack := ground.Clash(s.stands, s.turns, s.buffer)
		if eLack == api.OK {
			lacking++
			is(t, "a lack is accepted in "+what, ground.CheckClash(s.stands, s.turns, s.buffer, lack), api.OK)
			is(t, "a lack means that there is no assignment in "+what, e, api.ErrInfeasible)
		}
		switch {
		case e == api.OK:
			accepted++
			is(t, "an assignment is accepted in "+what, ground.CheckAssign(s.stands, s.turns, s.buffer, a), api.OK)
		case eLack != api.OK:
			neither++
		}
	}
	is(t, fmt.Sprint("there are some of each: ", accepted, lacking, neither), accepted > 300 && lacking > 300 && neither > 100, true)
}

// P4.6: with stands for all there is an assignment exactly if there is no lack, and exactly if there are as many as Least says.
func TestStandsForAll(t *testing.T) {
	x := noise(62)
	found, none := 0, 0
	for n := range 2000 {
		s := x.scene(1+x.next(6), x.next(9))
		for i := range s.stands {
			s.stands[i].Size, s.stands[i].Terminal = 9, ""
		}
		what := fmt.Sprint("scene ", n, " ", s)
		_, e := ground.Assign(s.stands, s.turns, s.buffer)
		_, eLack := ground.Clash(s.stands, s.turns, s.buffer)
		least := ok[[9]int](t)(ground.Least(s.turns, s.buffer))
		is(t, "an assignment without a lack in "+what, e == api.OK, eLack == api.ErrNone)
		is(t, "an assignment with enough stands in "+what, e == api.OK, least[0] <= len(s.stands))
		if e == api.OK {
			found++
		} else {
			none++
		}
	}
	is(t, fmt.Sprint("there are some of each: ", found, none), found > 300 && none > 300, true)
}

// P4.6: a movement with the seats of Room exceeds no further window, and one with a seat more does.
func TestRoomIsExact(t *testing.T) {
	x := noise(63)
	exact, full, wide := 0, 0, 0
	for n := range 2000 {
		h := x.hall()
		what := fmt.Sprint("hall ", n, " ", h)
		room, e := ground.Room(h.limits, h.movements, h.m)
		if e != api.OK {
			continue
		}
		before := windowsOf(exceededOf(h.limits, h.movements))
		with := func(seats int) [][2]int {
			h.m.Seats = seats
			return windowsOf(exceededOf(h.limits, append(slices.Clone(h.movements), h.m)))
		}
		isList(t, "with the seats of the room in "+what, with(room), before)
		switch room {
		case 0:
			full++
		case 999:
			wide++
		default:
			exact++
			is(t, "with a seat more in "+what, len(with(room+1)) > len(before), true)
			h.m.Seats = room
			is(t, "room that is left in "+what, ok[int](t)(ground.Room(h.limits, append(slices.Clone(h.movements), h.m), h.m)), 0)
		}
	}
	is(t, fmt.Sprint("there are some of each: ", exact, full, wide), exact > 100 && full > 100 && wide > 100, true)
}

// windowsOf returns the limits and the moments of windows.
func windowsOf(windows []ground.Window) [][2]int {
	var all [][2]int
	for _, w := range windows {
		all = append(all, [2]int{w.Limit, w.Moment})
	}
	return all
}

// P4.6: each moment is in the night of one day at most.
func TestOneNightAtMost(t *testing.T) {
	x := noise(64)
	nights := []ground.Night{late, {From: 0, To: 300}, {From: 1, To: 0}, {From: 0, To: 1439}, {From: 1439, To: 1438}, {From: 1380, To: 0}}
	for range 20 {
		from := x.next(1440)
		nights = append(nights, ground.Night{From: from, To: (from + 1 + x.next(1439)) % 1440})
	}
	for _, n := range nights {
		for moment := range 4 * 1440 {
			var days []int
			for day := range 5 {
				if covers(n, day, moment) {
					days = append(days, day)
				}
			}
			day, e := ground.NightOf(n, moment)
			var got []int
			if e == api.OK {
				got = append(got, day)
			} else {
				is(t, fmt.Sprint("NightOf at ", moment, " in ", n), e, api.ErrNone)
			}
			isList(t, fmt.Sprint("nights at ", moment, " in ", n), got, days)
		}
	}
}

// P4.6: the sums of all names are what all movements use.
func TestSumsOfNames(t *testing.T) {
	x := noise(65)
	some := 0
	for range 300 {
		q := quota(atNight(1200+x.next(240), x.next(600)))
		var movements []api.Movement
		for range x.next(257) {
			movements = append(movements, changed(x.movement(), func(m *api.Movement) { m.Moment = 1440*(firstDay-2+x.next(214)) + x.next(1440) }))
		}
		var all ground.Sum
		for _, row := range ok[[]ground.Row](t)(ground.Table(q, movements)) {
			all = ground.Sum{Count: all.Count + row.Sum.Count, Points: all.Points + row.Sum.Points}
			own := slices.DeleteFunc(slices.Clone(movements), func(m api.Movement) bool { return m.Name != row.Name })
			is(t, "what a name uses", ok[ground.Sum](t)(ground.Used(q, own)), row.Sum)
		}
		used := ok[ground.Sum](t)(ground.Used(q, movements))
		is(t, "the sums of all names", all, used)
		left := ok[ground.Sum](t)(ground.Left(q, movements))
		is(t, "used and left", ground.Sum{Count: used.Count + left.Count, Points: used.Points + left.Points}, ground.Sum{Count: q.Count, Points: q.Points})
		some += used.Count
	}
	is(t, "some count", some > 2000, true)
}
