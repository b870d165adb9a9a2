package ground_test

import (
	"fmt"
	"slices"

	"turnround/api"
	"turnround/ground"
)

// The definitions of the chapter, word by word and without haste.

// sceneEnd is behind all moments of scenes, buffers included.
const sceneEnd = 80

// scene is an input without error: stands, turnarounds and a buffer.
type scene struct {
	stands []ground.Stand
	turns  []ground.Turn
	buffer int
}

func (x *noise) scene(stands, turns int) scene {
	s := scene{buffer: pick(x, 0, 0, 1, 5, x.next(20))}
	for i := range stands {
		s.stands = append(s.stands, ground.Stand{Name: fmt.Sprint("s", i), Size: pick(x, 2, 5, 9, 1+x.next(9)), Terminal: pick(x, "", "", "t1", "t2")})
	}
	for i := range turns {
		start := x.next(40)
		s.turns = append(s.turns, ground.Turn{Name: fmt.Sprint("t", i), Start: start, End: start + pick(x, 0, x.next(8), x.next(20)), Size: pick(x, 1, 2, 1+x.next(6), 1+x.next(9)), Terminal: pick(x, "", "", "", "t1", "t2")})
	}
	return s
}

// occupies reports whether a turnaround occupies its stand at a moment.
func occupies(t ground.Turn, buffer, moment int) bool {
	return moment >= t.Start && moment < t.End+buffer
}

func suits(s ground.Stand, t ground.Turn) bool {
	return t.Size <= s.Size && (t.Terminal == s.Terminal || t.Terminal == "" || s.Terminal == "")
}

func overlap(a, b ground.Turn, buffer int) bool {
	for moment := range sceneEnd {
		if occupies(a, buffer, moment) && occupies(b, buffer, moment) {
			return true
		}
	}
	return false
}

// errorOf returns the error of an assignment with as many numbers as turnarounds.
func errorOf(s scene, assignment []int) api.Errno {
	for i, n := range assignment {
		if n < 0 || n >= len(s.stands) {
			return api.ErrUnknown
		}
		if !suits(s.stands[n], s.turns[i]) {
			return api.ErrRule
		}
		for j := range i {
			if assignment[j] == n && overlap(s.turns[j], s.turns[i], s.buffer) {
				return api.ErrClash
			}
		}
	}
	return api.OK
}

// firstAssignment tries all lists of numbers in their order.
func firstAssignment(s scene) ([]int, bool) {
	a := make([]int, len(s.turns))
	if len(a) > 0 && len(s.stands) == 0 {
		return nil, false
	}
	for errorOf(s, a) != api.OK {
		i := len(a) - 1
		for i >= 0 && a[i] == len(s.stands)-1 {
			a[i] = 0
			i--
		}
		if i < 0 {
			return nil, false
		}
		a[i]++
	}
	return a, true
}

// greedy gives each turnaround the first stand that is left; it returns what it gave.
func greedy(s scene) []int {
	var a []int
	for range s.turns {
		n := slices.IndexFunc(s.stands, func(stand ground.Stand) bool {
			return errorOf(s, append(slices.Clone(a), slices.Index(s.stands, stand))) == api.OK
		})
		if n < 0 {
			return a
		}
		a = append(a, n)
	}
	return a
}

func busyOf(s scene, assignment []int) []int {
	busy := make([]int, len(s.stands))
	for n := range busy {
		for moment := range sceneEnd {
			for i, t := range s.turns {
				if assignment[i] == n && occupies(t, s.buffer, moment) {
					busy[n]++
				}
			}
		}
	}
	return busy
}

// turnsAt returns the number of turnarounds of at least a size that occupy stands at a moment.
func turnsAt(s scene, moment, size int) int {
	n := 0
	for _, t := range s.turns {
		if t.Size >= size && occupies(t, s.buffer, moment) {
			n++
		}
	}
	return n
}

func isLack(s scene, moment, size int) bool {
	n := 0
	for _, stand := range s.stands {
		if stand.Size >= size {
			n++
		}
	}
	return turnsAt(s, moment, size) > n
}

// lacksOf returns all lacks, by moments, and those of a moment from the greatest size on.
func lacksOf(s scene) []ground.Lack {
	var all []ground.Lack
	for moment := range sceneEnd {
		for size := 9; size >= 1; size-- {
			if isLack(s, moment, size) {
				all = append(all, ground.Lack{Moment: moment, Size: size})
			}
		}
	}
	return all
}

func leastOf(s scene) [9]int {
	var least [9]int
	for moment := range sceneEnd {
		for size := 1; size <= 9; size++ {
			least[size-1] = max(least[size-1], turnsAt(s, moment, size))
		}
	}
	return least
}

// hall is an input without error: seat limits, movements, and a further movement.
type hall struct {
	limits    []ground.SeatLimit
	movements []api.Movement
	m         api.Movement
}

// hallEnd is behind all moments of halls.
const hallEnd = 400

func (x *noise) movement() api.Movement {
	return api.Movement{Moment: pick(x, x.next(hallEnd), x.next(90)), Kind: pick(x, "A", "D"), Terminal: pick(x, "", "t1", "t2"), Seats: pick(x, 0, 100, x.next(1000), x.next(300)), Size: 1 + x.next(9), Noise: x.next(100), Name: pick(x, "a", "b", "B", "c")}
}

func (x *noise) hall() hall {
	var h hall
	for range x.next(4) {
		length := pick(x, 1+x.next(100), 1+x.next(30), 1+x.next(400), 60)
		step := pick(x, 1, length, 1+x.next(length))
		h.limits = append(h.limits, ground.SeatLimit{Terminal: pick(x, "", "", "t1", "t2"), Kind: pick(x, "A", "D", "T"), Length: length, Step: step, Most: pick(x, 0, x.next(300), x.next(1000), x.next(3000))})
	}
	for range x.next(12) {
		h.movements = append(h.movements, x.movement())
	}
	h.m = x.movement()
	return h
}

func counts(l ground.SeatLimit, m api.Movement) bool {
	return (l.Terminal == "" || m.Terminal == l.Terminal) && (l.Kind == "T" || m.Kind == l.Kind)
}

func seatsOf(l ground.SeatLimit, movements []api.Movement, begin int) int {
	n := 0
	for _, m := range movements {
		if counts(l, m) && m.Moment >= begin && m.Moment < begin+l.Length {
			n += m.Seats
		}
	}
	return n
}

// exceededOf returns all exceeded windows.
func exceededOf(limits []ground.SeatLimit, movements []api.Movement) []ground.Window {
	var all []ground.Window
	for i, l := range limits {
		for begin := range hallEnd {
			if seats := seatsOf(l, movements, begin); begin%l.Step == 0 && seats > l.Most {
				all = append(all, ground.Window{Limit: i, Moment: begin, Seats: seats})
			}
		}
	}
	return all
}

// roomOf tries all numbers of seats.
func roomOf(h hall) (int, api.Errno) {
	if !slices.ContainsFunc(h.limits, func(l ground.SeatLimit) bool { return counts(l, h.m) }) {
		return 0, api.ErrNone
	}
	for seats := 999; seats > 0; seats-- {
		h.m.Seats = seats
		if !slices.ContainsFunc(h.limits, func(l ground.SeatLimit) bool { return isOver(l, append(slices.Clone(h.movements), h.m), h.m) }) {
			return seats, api.OK
		}
	}
	return 0, api.OK
}

// isOver reports whether a window in which a movement counts is exceeded.
func isOver(l ground.SeatLimit, movements []api.Movement, m api.Movement) bool {
	for begin := 0; begin <= m.Moment; begin += l.Step {
		if counts(l, m) && m.Moment < begin+l.Length && seatsOf(l, movements, begin) > l.Most {
			return true
		}
	}
	return false
}

// covers reports whether the night of a day has a moment.
func covers(n ground.Night, day, moment int) bool {
	from, to := 1440*day+n.From, 1440*day+n.To
	if n.To <= n.From {
		to += 1440
	}
	return from <= moment && moment < to
}
