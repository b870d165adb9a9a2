package calendar_test

import (
	"fmt"
	"math"
	"testing"
	"time"

	"turnround/api"
	"turnround/calendar"
)

// steps puts changes together from pairs of a moment and an offset.
func steps(pairs ...[2]int) []calendar.Change {
	var list []calendar.Change
	for _, p := range pairs {
		list = append(list, calendar.Change{Moment: p[0], Offset: p[1]})
	}
	return list
}

// manySteps returns n changes, each a day after the one before.
func manySteps(n int) []calendar.Change {
	list := make([]calendar.Change, n)
	for i := range list {
		list[i] = calendar.Change{Moment: 5000 + 1440*i, Offset: 60 * (i % 2)}
	}
	return list
}

// badZones has zones with each error, and with later errors beside it.
func badZones() []struct {
	what string
	z    calendar.Zone
	e    api.Errno
} {
	return []struct {
		what string
		z    calendar.Zone
		e    api.Errno
	}{
		{"offset too great", calendar.Zone{Offset: 841}, api.ErrRange},
		{"offset too small", calendar.Zone{Offset: -721}, api.ErrRange},
		{"greatest number", calendar.Zone{Offset: math.MaxInt}, api.ErrRange},
		{"smallest number", calendar.Zone{Offset: math.MinInt, Changes: steps([2]int{0, math.MaxInt})}, api.ErrRange},
		{"offset before many changes", calendar.Zone{Offset: 841, Changes: manySteps(65)}, api.ErrRange},
		{"65 changes", calendar.Zone{Changes: manySteps(65)}, api.ErrMany},
		{"65 changes with errors", calendar.Zone{Changes: make([]calendar.Change, 65)}, api.ErrMany},
		{"negative moment", calendar.Zone{Changes: steps([2]int{-1, 0})}, api.ErrRange},
		{"moment too great", calendar.Zone{Changes: steps([2]int{144000000, 0})}, api.ErrRange},
		{"moment before offset", calendar.Zone{Changes: steps([2]int{-1, 181})}, api.ErrRange},
		{"offset of a change too great", calendar.Zone{Offset: 840, Changes: steps([2]int{5, 841})}, api.ErrRange},
		{"offset of a change too small", calendar.Zone{Offset: -720, Changes: steps([2]int{5, -721})}, api.ErrRange},
		{"offset of a change out of range and large", calendar.Zone{Changes: steps([2]int{5, 841})}, api.ErrRange},
		{"offset of a change out of range, and order", calendar.Zone{Changes: steps([2]int{5, 0}, [2]int{5, -721})}, api.ErrRange},
		{"step up too large", calendar.Zone{Changes: steps([2]int{5, 181})}, api.ErrLarge},
		{"step down too large", calendar.Zone{Changes: steps([2]int{5, -181})}, api.ErrLarge},
		{"step from the first change", calendar.Zone{Changes: steps([2]int{5, 100}, [2]int{1445, -81})}, api.ErrLarge},
		{"step of the whole range", calendar.Zone{Offset: -720, Changes: steps([2]int{5, 840})}, api.ErrLarge},
		{"large and order", calendar.Zone{Changes: steps([2]int{5, 60}, [2]int{5, 241})}, api.ErrLarge},
		{"1439 minutes", calendar.Zone{Changes: steps([2]int{5, 60}, [2]int{1444, 0})}, api.ErrOrder},
		{"the same moment", calendar.Zone{Changes: steps([2]int{5, 60}, [2]int{5, 0})}, api.ErrOrder},
		{"descending", calendar.Zone{Changes: steps([2]int{9000, 60}, [2]int{5, 0})}, api.ErrOrder},
		{"third change too early", calendar.Zone{Changes: steps([2]int{0, 60}, [2]int{1440, 0}, [2]int{2879, 60})}, api.ErrOrder},
		{"order, then range", calendar.Zone{Changes: steps([2]int{5, 60}, [2]int{6, 0}, [2]int{-1, 0})}, api.ErrOrder},
		{"large, then range", calendar.Zone{Changes: steps([2]int{5, 181}, [2]int{-1, 0})}, api.ErrLarge},
		{"range, then order", calendar.Zone{Changes: steps([2]int{5, 60}, [2]int{-1, 0}, [2]int{-1, 0})}, api.ErrRange},
		{"last of 64 changes", calendar.Zone{Changes: append(manySteps(63), calendar.Change{Moment: 5000 + 1440*63 - 1, Offset: 60})}, api.ErrOrder},
	}
}

// goodZones has zones on the edges of all ranges.
func goodZones() []calendar.Zone {
	europe, _ := calendar.Summer(60, 2026, 2027)
	return []calendar.Zone{
		{}, {Offset: 840}, {Offset: -720}, {Offset: 60}, {Offset: -60}, europe,
		{Changes: manySteps(64)},
		{Offset: 60, Changes: steps([2]int{0, 240})},
		{Offset: -60, Changes: steps([2]int{0, -240})},
		{Offset: 60, Changes: steps([2]int{0, -120}, [2]int{1440, 60}, [2]int{2880, 240}, [2]int{4320, 60})},
		{Offset: 0, Changes: steps([2]int{1, 180}, [2]int{1441, 0}, [2]int{2881, -180}, [2]int{4321, 0})},
		{Offset: 0, Changes: steps([2]int{5, 60}, [2]int{1445, 0})},
		{Offset: 30, Changes: steps([2]int{100, 30}, [2]int{2000, 30}, [2]int{5000, 29})},
		{Offset: 660, Changes: steps([2]int{500, 840}, [2]int{1940, 660})},
		{Offset: -540, Changes: steps([2]int{700, -720}, [2]int{2140, -540})},
		{Offset: 0, Changes: steps([2]int{143999999, 180})},
		{Offset: 0, Changes: steps([2]int{143999999, -180})},
		{Offset: 60, Changes: steps([2]int{143998000, -120}, [2]int{143999900, 60})},
		{Offset: -60, Changes: steps([2]int{143998000, 120}, [2]int{143999500, -60})},
	}
}

// offsetAt is the definition of the offset at a universal moment.
func offsetAt(z calendar.Zone, moment int) int {
	offset := z.Offset
	for _, c := range z.Changes {
		if c.Moment <= moment {
			offset = c.Offset
		}
	}
	return offset
}

// universalByDefinition tries all universal moments that could have a local one.
func universalByDefinition(z calendar.Zone, local int) []int {
	var list []int
	for u := max(0, local-900); u <= min(api.MaxMoment, local+900); u++ {
		if u+offsetAt(z, u) == local {
			list = append(list, u)
		}
	}
	return list
}

// momentsOf has moments around the changes of a zone, and at both ends.
func momentsOf(z calendar.Zone) []int {
	var list []int
	places := []int{0, 720, 840, 72000000, api.MaxMoment - 840, api.MaxMoment}
	for _, c := range z.Changes[:min(len(z.Changes), 6)] {
		places = append(places, c.Moment, c.Moment+c.Offset, c.Moment+offsetAt(z, c.Moment-1))
	}
	for _, place := range places {
		for _, by := range []int{-181, -180, -61, -60, -59, -31, -2, -1, 0, 1, 2, 30, 59, 60, 61, 180, 181} {
			if place+by >= 0 && place+by <= api.MaxMoment {
				list = append(list, place+by)
			}
		}
	}
	return list
}

// P1.4
func TestCheckZone(t *testing.T) {
	for _, row := range badZones() {
		is(t, "CheckZone: "+row.what, calendar.CheckZone(row.z), row.e)
	}
	for _, z := range goodZones() {
		is(t, fmt.Sprint("CheckZone of ", z), calendar.CheckZone(z), api.OK)
	}
}

// P1.4
func TestExampleClocks(t *testing.T) {
	z, e := calendar.Summer(60, 2026, 2026)
	is(t, "Summer", e, api.OK)
	is(t, "offset", z.Offset, 60)
	isList(t, "changes", z.Changes, steps([2]int{13801020, 120}, [2]int{14103420, 60}))
	for _, row := range [][2]int{{13801019, 13801079}, {13801020, 13801140}} {
		l, e := calendar.Local(z, row[0])
		is(t, "Local", l, row[1])
		is(t, "Local", e, api.OK)
	}
	u, e := calendar.Universal(z, 13801100)
	isList(t, "Universal of no moment", u, nil)
	is(t, "Universal of no moment", e, api.ErrNone)
	u, e = calendar.Universal(z, 14103510)
	isList(t, "Universal of two moments", u, []int{14103390, 14103450})
	is(t, "Universal of two moments", e, api.OK)
}

// P1.4: all years, in pieces of different lengths.
func TestSummerYears(t *testing.T) {
	x := noise(5)
	for from := 2000; from <= 2272; {
		to := min(2272, from+x.next(32))
		offset := x.next(1501) - 720
		z, e := calendar.Summer(offset, from, to)
		is(t, "Summer", e, api.OK)
		is(t, "offset", z.Offset, offset)
		var want []calendar.Change
		for year := from; year <= to; year++ {
			want = append(want,
				calendar.Change{Moment: 1440*lastSundayOf(year, time.March) + 60, Offset: offset + 60},
				calendar.Change{Moment: 1440*lastSundayOf(year, time.October) + 60, Offset: offset})
		}
		isList(t, fmt.Sprint("changes of ", from, to), z.Changes, want)
		is(t, "CheckZone", calendar.CheckZone(z), api.OK)
		from = to + 1
	}
}

// P1.4
func TestSummerErrors(t *testing.T) {
	for _, row := range []struct {
		offset, from, to int
		e                api.Errno
	}{
		{-720, 2000, 2000, api.OK}, {780, 2272, 2272, api.OK}, {0, 2000, 2031, api.OK}, {0, 2241, 2272, api.OK},
		{-721, 2026, 2026, api.ErrRange}, {781, 2026, 2026, api.ErrRange}, {840, 2026, 2026, api.ErrRange}, {math.MinInt, 2026, 2026, api.ErrRange}, {math.MaxInt, 2026, 2026, api.ErrRange},
		{0, 1999, 2000, api.ErrRange}, {0, 2273, 2273, api.ErrRange}, {0, 2000, 2273, api.ErrRange}, {0, 2000, 1999, api.ErrRange}, {0, math.MinInt, 2000, api.ErrRange}, {0, 2000, math.MaxInt, api.ErrRange}, {0, 2000, math.MinInt, api.ErrRange},
		{0, 2273, 2000, api.ErrRange}, {781, 2026, 2025, api.ErrRange}, {0, 1999, 2200, api.ErrRange},
		{0, 2026, 2025, api.ErrOrder}, {0, 2272, 2000, api.ErrOrder},
		{0, 2000, 2032, api.ErrMany}, {0, 2000, 2272, api.ErrMany}, {60, 2240, 2272, api.ErrMany},
	} {
		z, e := calendar.Summer(row.offset, row.from, row.to)
		what := fmt.Sprint("Summer of ", row.offset, " ", row.from, " ", row.to)
		is(t, what, e, row.e)
		if e == api.OK {
			is(t, what, len(z.Changes), 2*(row.to-row.from+1))
			continue
		}
		is(t, what, z.Offset, 0)
		isList(t, what, z.Changes, nil)
	}
}

// P1.4
func TestLocalMoments(t *testing.T) {
	for _, z := range goodZones() {
		for _, moment := range momentsOf(z) {
			want, wantE := moment+offsetAt(z, moment), api.OK
			if want < 0 || want > api.MaxMoment {
				want, wantE = 0, api.ErrOutside
			}
			l, e := calendar.Local(z, moment)
			if l != want || e != wantE {
				t.Errorf("Local of %v %d: got %d %d, want %d %d", z, moment, l, e, want, wantE)
			}
		}
	}
}

// P1.4
func TestUniversalMoments(t *testing.T) {
	for _, z := range goodZones() {
		for _, moment := range momentsOf(z) {
			want, wantE := universalByDefinition(z, moment), api.OK
			if len(want) == 0 {
				wantE = api.ErrNone
			}
			u, e := calendar.Universal(z, moment)
			isList(t, fmt.Sprint("Universal of ", z, moment), u, want)
			is(t, fmt.Sprint("Universal of ", z, moment), e, wantE)
		}
	}
}

// P1.4: the first and the last moments.
func TestClocksAtTheEnds(t *testing.T) {
	east, west := calendar.Zone{Offset: 60}, calendar.Zone{Offset: -60}
	for _, row := range []struct {
		z                calendar.Zone
		universal, local int
		e                api.Errno
	}{
		{east, 0, 60, api.OK}, {east, 143999939, 143999999, api.OK}, {east, 143999940, 0, api.ErrOutside}, {east, 143999999, 0, api.ErrOutside},
		{west, 60, 0, api.OK}, {west, 59, 0, api.ErrOutside}, {west, 0, 0, api.ErrOutside}, {west, 143999999, 143999939, api.OK},
		{calendar.Zone{}, 0, 0, api.OK}, {calendar.Zone{}, 143999999, 143999999, api.OK},
	} {
		l, e := calendar.Local(row.z, row.universal)
		is(t, fmt.Sprint("Local of ", row.z, row.universal), l, row.local)
		is(t, fmt.Sprint("Local of ", row.z, row.universal), e, row.e)
		if e == api.OK {
			u, e := calendar.Universal(row.z, row.local)
			isList(t, fmt.Sprint("Universal of ", row.z, row.local), u, []int{row.universal})
			is(t, fmt.Sprint("Universal of ", row.z, row.local), e, api.OK)
		}
	}
	for _, row := range []struct {
		z     calendar.Zone
		local int
	}{{east, 0}, {east, 59}, {west, 143999999}, {west, 143999940}} {
		u, e := calendar.Universal(row.z, row.local)
		isList(t, fmt.Sprint("Universal of ", row.z, row.local), u, nil)
		is(t, fmt.Sprint("Universal of ", row.z, row.local), e, api.ErrNone)
	}
}

// P1.4: the error of the zone comes first.
func TestClockErrors(t *testing.T) {
	for _, row := range badZones() {
		for _, moment := range []int{0, 9000, -1, 144000000, math.MinInt, math.MaxInt} {
			l, e := calendar.Local(row.z, moment)
			is(t, "Local: "+row.what, l, 0)
			is(t, "Local: "+row.what, e, row.e)
			u, e := calendar.Universal(row.z, moment)
			isList(t, "Universal: "+row.what, u, nil)
			is(t, "Universal: "+row.what, e, row.e)
		}
	}
	for _, z := range goodZones() {
		for _, moment := range []int{-1, 144000000, -600, math.MinInt, math.MaxInt} {
			l, e := calendar.Local(z, moment)
			is(t, "Local of no moment", l, 0)
			is(t, "Local of no moment", e, api.ErrRange)
			u, e := calendar.Universal(z, moment)
			isList(t, "Universal of no moment", u, nil)
			is(t, "Universal of no moment", e, api.ErrRange)
		}
	}
}
