package capacity_test

import (
	"fmt"
	"slices"
	"testing"

	"turnround/api"
	"turnround/calendar"
	"turnround/capacity"
)

func ok[T any](t *testing.T) func(T, api.Errno) T {
	return func(value T, e api.Errno) T {
		t.Helper()
		is(t, "error", e, api.OK)
		return value
	}
}

// plus returns movements with others.
func plus(t *testing.T, movements, more []api.Movement) []api.Movement {
	t.Helper()
	return ok[[]api.Movement](t)(capacity.Merge(movements, more))
}

// overfull returns those of the windows of a movement that are exceeded.
func overfull(t *testing.T, s scene, movements []api.Movement, m api.Movement) []capacity.Window {
	t.Helper()
	return exceeded(s.limits, around(s.limits, windowsOf(s.limits, movements), m))
}

// P3.4: as many movements as there is room for may be added, and one more may not.
func TestRoomIsExact(t *testing.T) {
	x := noise(41)
	none, some := 0, 0
	for n := range 400 {
		s := x.scene()
		m := x.movement()
		what := fmt.Sprint("scene ", n)
		room := ok[int](t)(capacity.Room(s.limits, s.movements, m))
		before := overfull(t, s, s.movements, m)
		if room == 999999999 {
			is(t, what+": windows", len(around(s.limits, windowsOf(s.limits, s.movements), m)), 0)
			continue
		}
		after := plus(t, s.movements, slices.Repeat([]api.Movement{m}, room))
		isList(t, what+": exceeded by as many", overfull(t, s, after, m), before)
		is(t, what+": room after as many", ok[int](t)(capacity.Room(s.limits, after, m)), 0)
		if room == 0 {
			none++
		} else {
			some++
			is(t, what+": exceeded windows before", len(before), 0)
			one := plus(t, s.movements, slices.Repeat([]api.Movement{m}, room-1))
			is(t, what+": room after one less", ok[int](t)(capacity.Room(s.limits, one, m)), 1)
		}
		after = plus(t, after, []api.Movement{m})
		is(t, what+": exceeded by one more", len(overfull(t, s, after, m)) > 0, true)
	}
	is(t, "some have room, and some have none", some > 30 && none > 30, true)
}

// P3.4: a movement that does not fit is refused by a full window, and one that fits by none.
func TestRefusalsAreFull(t *testing.T) {
	x := noise(42)
	for n := range 300 {
		s := x.scene()
		m := x.movement()
		room := ok[int](t)(capacity.Room(s.limits, s.movements, m))
		full := ok[[]capacity.Window](t)(capacity.Full(s.limits, s.movements, m))
		is(t, fmt.Sprint("refused in scene ", n), len(full) > 0, room == 0)
		for _, w := range full {
			l := s.limits[w.Limit]
			is(t, "the movement is in a window that refuses it", counts(l, m) && contains(l, w.Begin, m.Moment), true)
			is(t, "the count of a window that refuses", w.Count, ok[int](t)(capacity.Count(l, s.movements, w.Begin)))
			is(t, "a window that refuses is full", w.Count >= l.Most, true)
		}
	}
}

// P3.4: a request that fits leaves all windows of its movements within their limits, and none more exceeded than before.
func TestWhatFitsExceedsNothing(t *testing.T) {
	x := noise(43)
	fitting := 0
	for n := range 200 {
		s := x.scene()
		what := fmt.Sprint("scene ", n)
		movements := ok[[]api.Movement](t)(capacity.Movements(s.request))
		after := plus(t, s.movements, movements)
		left := exceeded(s.limits, windowsOf(s.limits, after))
		for _, m := range movements {
			over := len(overfull(t, s, after, m))
			if ok[bool](t)(capacity.Fits(s.limits, s.movements, s.request)) {
				is(t, what+": exceeded windows of its movements", over, 0)
			}
		}
		if ok[bool](t)(capacity.Fits(s.limits, s.movements, s.request)) {
			fitting++
			isList(t, what+": exceeded windows", left, exceeded(s.limits, windowsOf(s.limits, s.movements)))
		} else {
			is(t, what+": a request that does not fit exceeds a window", len(left) > 0, true)
		}
		isList(t, what+": without its movements", ok[[]api.Movement](t)(capacity.Dropped(after, "x")), ok[[]api.Movement](t)(capacity.Merge(s.movements, nil)))
	}
	is(t, "some fit", fitting > 50 && fitting < 190, true)
}

// P3.4: the counts of neighbouring windows differ by the movements that enter and leave.
func TestNeighbours(t *testing.T) {
	x := noise(44)
	for n := range 100 {
		s := x.scene()
		l := x.limit("l")
		for day := l.Period.From; day <= l.Period.To; day++ {
			if !hasDay(l.Period, day) {
				continue
			}
			begins := ok[[]int](t)(capacity.Begins(l, day))
			table := ok[[]int](t)(capacity.Table(l, s.movements, day))
			is(t, "a count for each window", len(table), len(begins))
			for i := 1; i < len(begins); i++ {
				change := 0
				for _, m := range s.movements {
					was, will := contains(l, begins[i-1], m.Moment), contains(l, begins[i], m.Moment)
					if counts(l, m) && was && !will {
						change--
					}
					if counts(l, m) && !was && will {
						change++
					}
				}
				is(t, fmt.Sprint("neighbours in scene ", n), table[i]-table[i-1], change)
			}
		}
	}
}

// P3.4: more movements or lower limits never give more room.
func TestMoreTrafficHasLessRoom(t *testing.T) {
	x := noise(45)
	less := 0
	for n := range 150 {
		s := x.scene()
		what := fmt.Sprint("scene ", n)
		tight := slices.Clone(s.limits)
		for i := range tight {
			tight[i].Most = x.next(tight[i].Most + 1)
		}
		more := plus(t, s.movements, x.movements(x.next(20)))
		m := x.movement()
		room := ok[int](t)(capacity.Room(s.limits, s.movements, m))
		free := ok[[]int](t)(capacity.Free(s.limits, s.movements, s.request, 0, 1439))
		for _, y := range []scene{{tight, s.movements, s.request}, {s.limits, more, s.request}, {tight, more, s.request}} {
			is(t, what+": room", ok[int](t)(capacity.Room(y.limits, y.movements, m)) <= room, true)
			left := ok[[]int](t)(capacity.Free(y.limits, y.movements, y.request, 0, 1439))
			if len(left) < len(free) {
				less++
			}
			for _, minute := range left {
				is(t, what+": a free minute was free before", slices.Contains(free, minute), true)
			}
			peaks := [2]int{}
			for _, l := range s.limits {
				for i, movements := range [][]api.Movement{s.movements, y.movements} {
					w, _ := capacity.Peak(l, movements)
					peaks[i] = w.Count
				}
				is(t, what+": peak", peaks[0] <= peaks[1], true)
			}
		}
	}
	is(t, "some lose minutes", less > 50, true)
}

// P3.4: a limit that is added refuses what it alone refuses.
func TestAddedLimit(t *testing.T) {
	x := noise(46)
	for n := range 200 {
		s := x.scene()
		what := fmt.Sprint("scene ", n)
		l := x.limit("added")
		alone := []capacity.Limit{l}
		both := ok[[]capacity.Limit](t)(capacity.Put(s.limits, l))
		m := x.movement()
		room := min(ok[int](t)(capacity.Room(s.limits, s.movements, m)), ok[int](t)(capacity.Room(alone, s.movements, m)))
		is(t, what+": room", ok[int](t)(capacity.Room(both, s.movements, m)), room)
		full := ok[[]capacity.Window](t)(capacity.Full(s.limits, s.movements, m))
		for _, w := range ok[[]capacity.Window](t)(capacity.Full(alone, s.movements, m)) {
			w.Limit = len(s.limits)
			full = append(full, w)
		}
		isList(t, what+": full windows", ok[[]capacity.Window](t)(capacity.Full(both, s.movements, m)), full)
		byOne := ok[[]int](t)(capacity.Free(alone, s.movements, s.request, 0, 1439))
		free := slices.DeleteFunc(ok[[]int](t)(capacity.Free(s.limits, s.movements, s.request, 0, 1439)), func(minute int) bool {
			return !slices.Contains(byOne, minute)
		})
		isList(t, what+": free minutes", ok[[]int](t)(capacity.Free(both, s.movements, s.request, 0, 1439)), free)
		isList(t, what+": without it", ok[[]capacity.Limit](t)(capacity.Without(both, "added")), s.limits)
	}
}

// weekLater returns a scene seven days later.
func weekLater(t *testing.T, s scene) scene {
	t.Helper()
	later := scene{limits: slices.Clone(s.limits), movements: slices.Clone(s.movements), request: s.request}
	for i, l := range s.limits {
		later.limits[i].Period = ok[api.Period](t)(calendar.Shift(l.Period, 7))
	}
	for i := range later.movements {
		later.movements[i].Moment += 7 * 1440
	}
	later.request.Period = ok[api.Period](t)(calendar.Shift(s.request.Period, 7))
	return later
}

func windowsLater(windows []capacity.Window) []capacity.Window {
	later := slices.Clone(windows)
	for i := range later {
		later[i].Begin += 7 * 1440
	}
	return later
}

// P3.4: seven days later everything is the same.
func TestSevenDaysLater(t *testing.T) {
	x := noise(47)
	for n := range 200 {
		s := x.scene()
		later := weekLater(t, s)
		what := fmt.Sprint("scene ", n)
		all, e := capacity.Excess(s.limits, s.movements)
		allLater, eLater := capacity.Excess(later.limits, later.movements)
		is(t, what+": Excess", eLater, e)
		isList(t, what+": Excess", allLater, windowsLater(all))
		m := x.movement()
		mLater := m
		mLater.Moment += 7 * 1440
		is(t, what+": Room", ok[int](t)(capacity.Room(later.limits, later.movements, mLater)), ok[int](t)(capacity.Room(s.limits, s.movements, m)))
		isList(t, what+": Full", ok[[]capacity.Window](t)(capacity.Full(later.limits, later.movements, mLater)), windowsLater(ok[[]capacity.Window](t)(capacity.Full(s.limits, s.movements, m))))
		isList(t, what+": Free", ok[[]int](t)(capacity.Free(later.limits, later.movements, later.request, 0, 1439)), ok[[]int](t)(capacity.Free(s.limits, s.movements, s.request, 0, 1439)))
		is(t, what+": Nearest", ok[[2]int](t)(capacity.Nearest(later.limits, later.movements, later.request, 300, 900)), ok[[2]int](t)(capacity.Nearest(s.limits, s.movements, s.request, 300, 900)))
		is(t, what+": Fits", ok[bool](t)(capacity.Fits(later.limits, later.movements, later.request)), ok[bool](t)(capacity.Fits(s.limits, s.movements, s.request)))
		movements := ok[[]api.Movement](t)(capacity.Movements(s.request))
		for i, m := range ok[[]api.Movement](t)(capacity.Movements(later.request)) {
			m.Moment -= 7 * 1440
			is(t, what+": Movements", m, movements[i])
		}
		for i, l := range s.limits {
			peak, e := capacity.Peak(l, s.movements)
			peakLater, eLater := capacity.Peak(later.limits[i], later.movements)
			is(t, what+": Peak", eLater, e)
			if e == api.OK {
				is(t, what+": Peak", peakLater, windowsLater([]capacity.Window{peak})[0])
			}
			table, e := capacity.Table(l, s.movements, l.Period.From)
			tableLater, eLater := capacity.Table(later.limits[i], later.movements, l.Period.From+7)
			is(t, what+": Table", eLater, e)
			isList(t, what+": Table", tableLater, table)
		}
	}
}
