package ground

import (
	"cmp"
	"iter"
	"slices"

	"turnround/api"
	"turnround/check"
)

// CheckSeats returns the first error of seat limits, or OK.
func CheckSeats(l []SeatLimit) api.Errno {
	return check.List(l, api.MaxLimits, func(l SeatLimit) api.Errno {
		return check.First(
			checkTerminal(l.Terminal),
			check.Unless(l.Kind == check.BothKinds || check.IsKind(l.Kind), api.ErrKind),
			check.Range(l.Length, 1, MaxLength),
			check.Range(l.Step, 1, l.Length),
			check.Range(l.Most, 0, api.MaxNumber),
		)
	})
}

// Seats returns the seats in the window of a limit that begins at a moment.
func Seats(l SeatLimit, movements []api.Movement, moment int) (int, api.Errno) {
	e := check.First(CheckSeats([]SeatLimit{l}), CheckMovements(movements), check.Moment(moment))
	if e != api.OK {
		return 0, e
	}
	return seatsIn(l, counted(l, movements), moment), api.OK
}

// Exceeded returns the first window that is exceeded.
func Exceeded(l []SeatLimit, movements []api.Movement) (Window, api.Errno) {
	if e := check.First(CheckSeats(l), CheckMovements(movements)); e != api.OK {
		return Window{}, e
	}
	for i, limit := range l {
		own := counted(limit, movements)
		for begin := range windowsWith(limit, own) {
			if seats := seatsIn(limit, own, begin); seats > limit.Most {
				return Window{Limit: i, Moment: begin, Seats: seats}, api.OK
			}
		}
	}
	return Window{}, api.ErrNone
}

// Room returns how many seats a further movement can have.
func Room(l []SeatLimit, movements []api.Movement, m api.Movement) (int, api.Errno) {
	if e := check.First(CheckSeats(l), CheckMovements(movements), checkMovement(m)); e != api.OK {
		return 0, e
	}
	room, isLimited := api.MaxSeats, false
	for _, limit := range l {
		if !counts(limit, m) {
			continue
		}
		isLimited = true
		own := counted(limit, movements)
		for begin := range windowsAt(limit, m.Moment) {
			room = min(room, limit.Most-seatsIn(limit, own, begin))
		}
	}
	if !isLimited {
		return 0, api.ErrNone
	}
	return max(room, 0), api.OK
}

// counts reports whether a movement counts in the windows of a limit.
func counts(l SeatLimit, m api.Movement) bool {
	return check.Counts(l.Kind, l.Terminal, m)
}

// counted returns the movements that count in the windows of a limit, in the order of their moments.
func counted(l SeatLimit, movements []api.Movement) []api.Movement {
	var own []api.Movement
	for _, m := range movements {
		if counts(l, m) {
			own = append(own, m)
		}
	}
	slices.SortFunc(own, func(a, b api.Movement) int { return cmp.Compare(a.Moment, b.Moment) })
	return own
}

// seatsIn returns the seats of counted movements in the window of a limit that begins at a moment.
func seatsIn(l SeatLimit, own []api.Movement, begin int) int {
	at, _ := slices.BinarySearchFunc(own, begin, func(m api.Movement, begin int) int { return cmp.Compare(m.Moment, begin) })
	seats := 0
	for _, m := range own[at:] {
		if m.Moment >= begin+l.Length {
			break
		}
		seats += m.Seats
	}
	return seats
}

// windowsAt visits the beginnings of the windows of a limit that contain a moment, in ascending order.
func windowsAt(l SeatLimit, moment int) iter.Seq[int] {
	return func(yield func(int) bool) {
		first := max(moment-l.Length+1, 0)
		for n := (first + l.Step - 1) / l.Step; n <= moment/l.Step; n++ {
			if !yield(n * l.Step) {
				return
			}
		}
	}
}

// windowsWith visits the beginnings of the windows of a limit with counted movements, in ascending order, each once.
func windowsWith(l SeatLimit, own []api.Movement) iter.Seq[int] {
	return func(yield func(int) bool) {
		last := -1
		for _, m := range own {
			for begin := range windowsAt(l, m.Moment) {
				if begin <= last {
					continue
				}
				if !yield(begin) {
					return
				}
				last = begin
			}
		}
	}
}
