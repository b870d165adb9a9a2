package ground

import (
	"slices"

	"turnround/api"
	"turnround/check"
)

// set is a set of at most MaxExact turnarounds: the bit of each index in it is set.
type set uint

func (s set) has(i int) bool { return s>>i&1 == 1 }

func (s set) with(i int) set { return s | 1<<i }

// trial is what an exact search knows: for each stand the turnarounds that suit it, and for each turnaround those that overlap it.
type trial struct {
	suiting     []set
	overlapping []set
}

// Assign returns the first assignment of turnarounds to stands.
func Assign(stands []Stand, turns []Turn, buffer int) ([]int, api.Errno) {
	e := check.First(checkGround(stands, turns, buffer), check.Unless(len(turns) <= api.MaxExact, api.ErrLimit))
	if e != api.OK {
		return nil, e
	}
	return trialOf(stands, turns, buffer).assign()
}

// CheckAssign returns OK for an assignment.
func CheckAssign(stands []Stand, turns []Turn, buffer int, assignment []int) api.Errno {
	if e := checkGround(stands, turns, buffer); e != api.OK {
		return e
	}
	if len(assignment) != len(turns) {
		return api.ErrShape
	}
	at := make([][]Turn, len(stands))
	for i, t := range turns {
		stand := assignment[i]
		if stand < 0 || stand >= len(stands) {
			return api.ErrUnknown
		}
		e := check.First(
			check.Unless(suits(stands[stand], t), api.ErrRule),
			check.Unless(!slices.ContainsFunc(at[stand], overlaps(t, buffer)), api.ErrClash),
		)
		if e != api.OK {
			return e
		}
		at[stand] = append(at[stand], t)
	}
	return api.OK
}

// Busy returns for how many minutes each stand is occupied.
func Busy(stands []Stand, turns []Turn, buffer int, assignment []int) ([]int, api.Errno) {
	if e := CheckAssign(stands, turns, buffer, assignment); e != api.OK {
		return nil, e
	}
	busy := make([]int, len(stands))
	for i, t := range turns {
		busy[assignment[i]] += t.End + buffer - t.Start
	}
	return busy, api.OK
}

func checkGround(stands []Stand, turns []Turn, buffer int) api.Errno {
	return check.First(CheckStands(stands), CheckTurns(turns), checkBuffer(buffer))
}

// overlaps returns what reports whether another turnaround overlaps one.
func overlaps(t Turn, buffer int) func(Turn) bool {
	return func(other Turn) bool { return other != t && overlap(other, t, buffer) }
}

func trialOf(stands []Stand, turns []Turn, buffer int) trial {
	var x trial
	for _, s := range stands {
		x.suiting = append(x.suiting, setOf(turns, func(t Turn) bool { return suits(s, t) }))
	}
	for _, t := range turns {
		x.overlapping = append(x.overlapping, setOf(turns, overlaps(t, buffer)))
	}
	return x
}

// setOf returns the set of those turnarounds that are to be in it.
func setOf(turns []Turn, isIn func(Turn) bool) set {
	var s set
	for i, t := range turns {
		if isIn(t) {
			s = s.with(i)
		}
	}
	return s
}

// assign returns the first assignment, or ErrInfeasible.
func (x trial) assign() ([]int, api.Errno) {
	assignment := make([]int, len(x.overlapping))
	var search func(turn int, at []set) bool
	search = func(turn int, at []set) bool {
		if turn == len(assignment) {
			return true
		}
		tried := map[set]bool{}
		for stand, there := range at {
			open := x.open(stand, there, turn)
			// Stands that are open to the same turnarounds leave the same choices: where the first of them fails, all do.
			if !open.has(turn) || tried[open] {
				continue
			}
			tried[open] = true
			assignment[turn] = stand
			if search(turn+1, placed(at, stand, turn)) {
				return true
			}
		}
		return false
	}
	if !search(0, make([]set, len(x.suiting))) {
		return nil, api.ErrInfeasible
	}
	return assignment, api.OK
}

// open returns which ones of the turnarounds from one on can be at a stand beside those that are there.
func (x trial) open(stand int, there set, from int) set {
	open := x.suiting[stand] >> from << from
	for i, others := range x.overlapping {
		if there.has(i) {
			open &^= others
		}
	}
	return open
}

// placed returns the turnarounds at each stand with a further one; those of the earlier choices stay as they are.
func placed(at []set, stand, turn int) []set {
	after := make([]set, len(at))
	copy(after, at)
	after[stand] = at[stand].with(turn)
	return after
}
