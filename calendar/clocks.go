package calendar

import (
	"turnround/api"
	"turnround/check"
)

const (
	minutesOfDay = 1440

	// Summer time begins and ends at this universal minute, and is ahead by summerStep minutes.
	changeMinute = 60
	summerStep   = 60

	// Each year with summer time has two changes.
	maxSummers = MaxChanges / 2
)

// stretch is the universal moments between two, both included, that have one offset.
type stretch struct {
	from   int
	to     int
	offset int
}

// CheckZone returns the first error of a zone, or OK.
func CheckZone(z Zone) api.Errno {
	if e := check.First(checkOffset(z.Offset), check.Unless(len(z.Changes) <= MaxChanges, api.ErrMany)); e != api.OK {
		return e
	}
	offset := z.Offset
	for i, c := range z.Changes {
		e := check.First(
			check.Moment(c.Moment),
			checkOffset(c.Offset),
			check.Unless(max(c.Offset, offset)-min(c.Offset, offset) <= MaxStep, api.ErrLarge),
			check.Unless(i == 0 || c.Moment-z.Changes[i-1].Moment >= minutesOfDay, api.ErrOrder),
		)
		if e != api.OK {
			return e
		}
		offset = c.Offset
	}
	return api.OK
}

// Summer returns the zone with summer time for some years.
func Summer(offset, from, to int) (Zone, api.Errno) {
	e := check.First(
		check.Range(offset, MinOffset, MaxOffset-summerStep),
		check.Range(from, MinYear, MaxYear),
		check.Range(to, MinYear, MaxYear),
		check.Unless(from <= to, api.ErrOrder),
		check.Unless(to-from < maxSummers, api.ErrMany),
	)
	if e != api.OK {
		return Zone{}, e
	}
	var changes []Change
	for n := range to - from + 1 {
		year := from + n
		changes = append(changes,
			Change{Moment: changeMoment(year, march), Offset: offset + summerStep},
			Change{Moment: changeMoment(year, october), Offset: offset},
		)
	}
	return Zone{Offset: offset, Changes: changes}, api.OK
}

// Local returns the local moment of a universal moment.
func Local(z Zone, moment int) (int, api.Errno) {
	if e := check.First(CheckZone(z), check.Moment(moment)); e != api.OK {
		return 0, e
	}
	local := moment
	for _, s := range stretches(z) {
		if s.from <= moment && moment <= s.to {
			local += s.offset
		}
	}
	if check.Moment(local) != api.OK {
		return 0, api.ErrOutside
	}
	return local, api.OK
}

// Universal returns the universal moments that have a local moment.
func Universal(z Zone, moment int) ([]int, api.Errno) {
	if e := check.First(CheckZone(z), check.Moment(moment)); e != api.OK {
		return nil, e
	}
	var found []int
	for _, s := range stretches(z) {
		universal := moment - s.offset
		if s.from <= universal && universal <= s.to {
			found = append(found, universal)
		}
	}
	return found, check.Unless(len(found) > 0, api.ErrNone)
}

// stretches returns the stretches of all moments in a zone without error, in ascending order; one before a change at the moment 0 is empty.
func stretches(z Zone) []stretch {
	var all []stretch
	next := stretch{from: 0, offset: z.Offset}
	for _, c := range z.Changes {
		next.to = c.Moment - 1
		all = append(all, next)
		next = stretch{from: c.Moment, offset: c.Offset}
	}
	next.to = api.MaxMoment
	return append(all, next)
}

func checkOffset(offset int) api.Errno { return check.Range(offset, MinOffset, MaxOffset) }

func changeMoment(year, month int) int {
	return minutesOfDay*lastSunday(year, month) + changeMinute
}
