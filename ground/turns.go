package ground

import (
	"cmp"

	"turnround/api"
	"turnround/check"
)

// CheckStands returns the first error of stands, or OK.
func CheckStands(l []Stand) api.Errno {
	once := check.Once()
	return check.List(l, api.MaxStands, func(s Stand) api.Errno {
		return check.First(
			check.Name(s.Name),
			once(s.Name),
			checkSize(s.Size),
			checkTerminal(s.Terminal),
		)
	})
}

// CheckTurns returns the first error of turnarounds, or OK.
func CheckTurns(l []Turn) api.Errno {
	once := check.Once()
	return check.List(l, api.MaxList, func(t Turn) api.Errno {
		return check.First(
			check.Name(t.Name),
			once(t.Name),
			check.Moment(t.Start),
			check.Moment(t.End),
			check.Unless(t.Start <= t.End, api.ErrOrder),
			checkSize(t.Size),
			checkTerminal(t.Terminal),
		)
	})
}

// CheckMovements returns the first error of movements, or OK.
func CheckMovements(l []api.Movement) api.Errno {
	return check.List(l, api.MaxList, checkMovement)
}

// Pair returns the turnaround of an arrival and a departure.
func Pair(a, d api.Movement, least, most int) (Turn, api.Errno) {
	e := check.First(
		checkMovement(a),
		check.Unless(a.Kind == api.Arrival, api.ErrKind),
		checkMovement(d),
		check.Unless(d.Kind == api.Departure, api.ErrKind),
		check.Range(least, 0, MaxGround),
		check.Range(most, 0, MaxGround),
		check.Unless(least <= most, api.ErrOrder),
		check.Unless(fit(a, d, least, most), api.ErrPair),
	)
	if e != api.OK {
		return Turn{}, e
	}
	return Turn{Name: a.Name, Start: a.Moment, End: d.Moment, Size: a.Size, Terminal: cmp.Or(a.Terminal, d.Terminal)}, api.OK
}

// Suits reports whether a turnaround can be at a stand.
func Suits(s Stand, t Turn) (bool, api.Errno) {
	if e := check.First(CheckStands([]Stand{s}), CheckTurns([]Turn{t})); e != api.OK {
		return false, e
	}
	return suits(s, t), api.OK
}

// Overlap reports whether two turnarounds overlap.
func Overlap(a, b Turn, buffer int) (bool, api.Errno) {
	if e := check.First(CheckTurns([]Turn{a}), CheckTurns([]Turn{b}), checkBuffer(buffer)); e != api.OK {
		return false, e
	}
	return overlap(a, b, buffer), api.OK
}

func checkMovement(m api.Movement) api.Errno {
	return check.First(
		check.Moment(m.Moment),
		check.Kind(m.Kind),
		checkTerminal(m.Terminal),
		check.Range(m.Seats, 0, api.MaxSeats),
		checkSize(m.Size),
		check.Range(m.Noise, 0, api.MaxNoise),
		check.Name(m.Name),
	)
}

func checkSize(size int) api.Errno { return check.Range(size, 1, api.MaxSize) }

func checkTerminal(s string) api.Errno {
	return check.Unless(s == "" || check.IsName(s), api.ErrForm)
}

func checkBuffer(buffer int) api.Errno { return check.Range(buffer, 0, MaxBuffer) }

// fit reports whether an arrival and a departure can be of one aircraft that stays from the least to the most minutes.
func fit(a, d api.Movement, least, most int) bool {
	stay := d.Moment - a.Moment
	return least <= stay && stay <= most && a.Size == d.Size && agree(a.Terminal, d.Terminal)
}

// agree reports whether two terminals are equal, or one of them is any.
func agree(a, b string) bool { return a == b || a == "" || b == "" }

func suits(s Stand, t Turn) bool { return t.Size <= s.Size && agree(s.Terminal, t.Terminal) }

func overlap(a, b Turn, buffer int) bool {
	return max(a.Start, b.Start) < min(a.End, b.End)+buffer
}

// occupies reports whether a turnaround occupies its stand at a moment.
func occupies(t Turn, buffer, moment int) bool {
	return t.Start <= moment && moment < t.End+buffer
}
