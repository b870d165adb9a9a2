package use_test

import (
	"cmp"
	"slices"
	"time"

	"turnround/api"
	"turnround/calendar"
	"turnround/use"
)

// The definitions of the chapter, word by word and without haste.

func isName(s string) bool {
	if len(s) < 1 || len(s) > 24 {
		return false
	}
	for i := range len(s) {
		isLetter := 'a' <= s[i] && s[i] <= 'z' || 'A' <= s[i] && s[i] <= 'Z'
		isOther := '0' <= s[i] && s[i] <= '9' || s[i] == '_'
		if !isLetter && (i == 0 || !isOther) {
			return false
		}
	}
	return true
}

func isKind(s string) bool { return s == "A" || s == "D" }

func isDay(day int) bool { return 0 <= day && day <= 99999 }

func isMinute(minute int) bool { return 0 <= minute && minute <= 1439 }

func isMoment(moment int) bool { return 0 <= moment && moment <= 143999999 }

func hasDay(p api.Period, day int) bool {
	return p.From <= day && day <= p.To && p.Days&(1<<((day+5)%7)) != 0
}

func daysOf(p api.Period) []int {
	var days []int
	for day := p.From; day <= p.To; day++ {
		if hasDay(p, day) {
			days = append(days, day)
		}
	}
	return days
}

func periodError(p api.Period) api.Errno {
	switch {
	case !isDay(p.From) || !isDay(p.To):
		return api.ErrRange
	case p.To < p.From:
		return api.ErrOrder
	case p.To-p.From > 400:
		return api.ErrLarge
	case p.Days < 1 || p.Days > 127:
		return api.ErrRange
	}
	return api.OK
}

func seasonError(s calendar.Season) api.Errno {
	switch {
	case s.Year < 2000 || s.Year > 2272:
		return api.ErrRange
	case s.Kind != "S" && s.Kind != "W":
		return api.ErrKind
	}
	return api.OK
}

func ruleError(r use.Rule) api.Errno {
	switch {
	case r.Before < 0 || r.Before > 720 || r.After < 0 || r.After > 720:
		return api.ErrRange
	case r.Notice < 0 || r.Notice > 365 || r.Share < 1 || r.Share > 100:
		return api.ErrRange
	case len(r.Causes) > 16:
		return api.ErrMany
	}
	for i, cause := range r.Causes {
		switch {
		case !isName(cause):
			return api.ErrName
		case slices.Contains(r.Causes[:i], cause):
			return api.ErrTwice
		}
	}
	if r.Off < 0 || r.Off > 720 || r.Run < 1 || r.Run > 512 {
		return api.ErrRange
	}
	return api.OK
}

func slotsError(l []use.Slot) api.Errno {
	if len(l) > 512 {
		return api.ErrMany
	}
	for _, s := range l {
		switch {
		case !isName(s.Name):
			return api.ErrName
		case !isMoment(s.Moment):
			return api.ErrRange
		case !isKind(s.Kind):
			return api.ErrKind
		}
	}
	return api.OK
}

func notesError(l []use.Note) api.Errno {
	if len(l) > 512 {
		return api.ErrMany
	}
	for _, n := range l {
		if e := noteError(n); e != api.OK {
			return e
		}
	}
	return api.OK
}

func noteError(n use.Note) api.Errno {
	isOf := func(kinds ...string) bool { return slices.Contains(kinds, n.Kind) }
	switch {
	case !isOf("fly", "back", "cancel", "weather"):
		return api.ErrKind
	case isOf("fly", "back", "cancel") && !isName(n.Name):
		return api.ErrName
	case isOf("fly") && !isMoment(n.Moment):
		return api.ErrRange
	case isOf("fly") && !isKind(n.Move):
		return api.ErrKind
	case isOf("back", "cancel", "weather") && (!isDay(n.From) || !isDay(n.To)):
		return api.ErrRange
	case isOf("back", "cancel", "weather") && n.To < n.From:
		return api.ErrOrder
	case isOf("cancel") && !isName(n.Cause):
		return api.ErrName
	case isOf("back") && !isDay(n.Told):
		return api.ErrRange
	case !isOf("fly", "back", "cancel") && n.Name != "":
		return api.ErrForm
	case !isOf("fly") && (n.Moment != 0 || n.Move != ""):
		return api.ErrForm
	case !isOf("back", "cancel", "weather") && (n.From != 0 || n.To != 0):
		return api.ErrForm
	case !isOf("cancel") && n.Cause != "" || !isOf("back") && n.Told != 0:
		return api.ErrForm
	}
	return api.OK
}

func requestsError(l []api.Request) api.Errno {
	if len(l) > 64 {
		return api.ErrMany
	}
	for i, q := range l {
		isTwice := slices.ContainsFunc(l[:i], func(other api.Request) bool { return other.Name == q.Name })
		switch e := periodError(q.Period); {
		case !isName(q.Name):
			return api.ErrName
		case isTwice:
			return api.ErrTwice
		case !isKind(q.Kind):
			return api.ErrKind
		case e != api.OK:
			return e
		case !isMinute(q.Minute):
			return api.ErrRange
		}
	}
	return api.OK
}

func ratioError(x use.Ratio) api.Errno {
	switch {
	case x.Flown < 0 || x.Flown > 512 || x.Due < 0 || x.Due > 512:
		return api.ErrRange
	case x.Flown > x.Due:
		return api.ErrOrder
	}
	return api.OK
}

func slotsOf(name, kind string, p api.Period, minute int) []use.Slot {
	var all []use.Slot
	for _, day := range daysOf(p) {
		all = append(all, slot(name, 1440*day+minute, kind))
	}
	return all
}

func isPair(r use.Rule, s, x use.Slot) bool {
	return s.Name == x.Name && s.Kind == x.Kind && s.Moment-r.Before <= x.Moment && x.Moment <= s.Moment+r.After
}

// made returns the matches in the order in which they are made.
func made(r use.Rule, slots, records []use.Slot) []use.Match {
	looked, taken := make([]bool, len(slots)), make([]bool, len(records))
	var all []use.Match
	for range slots {
		next := -1
		for i, s := range slots {
			if !looked[i] && (next < 0 || s.Moment < slots[next].Moment) {
				next = i
			}
		}
		looked[next] = true
		least := -1
		for j, x := range records {
			if !taken[j] && isPair(r, slots[next], x) && (least < 0 || x.Moment < records[least].Moment) {
				least = j
			}
		}
		if least >= 0 {
			taken[least] = true
			all = append(all, pair(next, least))
		}
	}
	return all
}

func matches(r use.Rule, slots, records []use.Slot) []use.Match {
	all := made(r, slots, records)
	slices.SortFunc(all, func(x, y use.Match) int { return cmp.Compare(x.Slot, y.Slot) })
	return all
}

func matchesError(r use.Rule, slots, records []use.Slot, l []use.Match) api.Errno {
	for i, m := range l {
		isTaken := slices.ContainsFunc(l[:i], func(other use.Match) bool { return other.Record == m.Record })
		switch {
		case m.Slot < 0 || m.Slot >= len(slots) || m.Record < 0 || m.Record >= len(records):
			return api.ErrUnknown
		case i > 0 && m.Slot <= l[i-1].Slot:
			return api.ErrOrder
		case isTaken:
			return api.ErrTwice
		case !isPair(r, slots[m.Slot], records[m.Record]):
			return api.ErrRule
		}
	}
	return api.OK
}

func isCover(r use.Rule, slots, records []use.Slot, c use.Cover) bool {
	for i, s := range slots {
		for j, x := range records {
			if isPair(r, s, x) && !slices.Contains(c.Slots, i) && !slices.Contains(c.Records, j) {
				return false
			}
		}
	}
	return true
}

func coverError(r use.Rule, slots, records []use.Slot, c use.Cover) api.Errno {
	for _, x := range []struct {
		indices []int
		n       int
	}{{c.Slots, len(slots)}, {c.Records, len(records)}} {
		for i, index := range x.indices {
			switch {
			case index < 0 || index >= x.n:
				return api.ErrUnknown
			case i > 0 && index <= x.indices[i-1]:
				return api.ErrOrder
			}
		}
	}
	if !isCover(r, slots, records, c) || len(c.Slots)+len(c.Records) != len(matches(r, slots, records)) {
		return api.ErrProof
	}
	return api.OK
}

func missed(r use.Rule, slots, records []use.Slot) []int {
	var all []int
	for i := range slots {
		if !slices.ContainsFunc(made(r, slots, records), func(m use.Match) bool { return m.Slot == i }) {
			all = append(all, i)
		}
	}
	return all
}

func extra(r use.Rule, slots, records []use.Slot) []int {
	var all []int
	for i := range records {
		if !slices.ContainsFunc(made(r, slots, records), func(m use.Match) bool { return m.Record == i }) {
			all = append(all, i)
		}
	}
	return all
}

func isMisused(r use.Rule, slots, records []use.Slot) bool {
	all := made(r, slots, records)
	for first := 0; first+r.Run <= len(all); first++ {
		isRun := true
		for _, m := range all[first : first+r.Run] {
			late := records[m.Record].Moment - slots[m.Slot].Moment
			isRun = isRun && (late > r.Off || -late > r.Off)
		}
		if isRun {
			return true
		}
	}
	return false
}

func flights(l []use.Note) []use.Slot {
	var all []use.Slot
	for _, n := range l {
		if n.Kind == "fly" {
			all = append(all, slot(n.Name, n.Moment, n.Move))
		}
	}
	slices.SortFunc(all, func(x, y use.Slot) int {
		return cmp.Or(cmp.Compare(x.Moment, y.Moment), cmp.Compare(x.Name, y.Name), cmp.Compare(x.Kind, y.Kind))
	})
	return all
}

func isReturned(r use.Rule, s use.Slot, l []use.Note) bool {
	day := s.Moment / 1440
	for _, n := range l {
		if n.Kind == "back" && n.Name == s.Name && n.From <= day && day <= n.To && n.Told+r.Notice <= day {
			return true
		}
	}
	return false
}

func isExcused(r use.Rule, s use.Slot, l []use.Note) bool {
	day := s.Moment / 1440
	for _, n := range l {
		switch {
		case n.Kind == "weather" && n.From <= day && day <= n.To:
			return true
		case n.Kind == "cancel" && n.Name == s.Name && n.From <= day && day <= n.To && slices.Contains(r.Causes, n.Cause):
			return true
		}
	}
	return false
}

func statuses(r use.Rule, all []use.Slot, l []use.Note) []string {
	var due []use.Slot
	place := map[int]int{}
	for i, s := range all {
		if !isReturned(r, s, l) {
			place[i] = len(due)
			due = append(due, s)
		}
	}
	inMatch := map[int]bool{}
	for _, m := range made(r, due, flights(l)) {
		inMatch[m.Slot] = true
	}
	var words []string
	for i, s := range all {
		at, isDue := place[i]
		switch {
		case !isDue:
			words = append(words, "returned")
		case inMatch[at]:
			words = append(words, "flown")
		case isExcused(r, s, l):
			words = append(words, "excused")
		default:
			words = append(words, "missed")
		}
	}
	return words
}

// ratioOf returns the ratio of those of all slots that are chosen, with their status among all slots.
func ratioOf(r use.Rule, all []use.Slot, l []use.Note, chosen func(use.Slot) bool) use.Ratio {
	var x use.Ratio
	for i, word := range statuses(r, all, l) {
		if !chosen(all[i]) {
			continue
		}
		switch word {
		case "flown", "excused":
			x.Flown++
			x.Due++
		case "missed":
			x.Due++
		}
	}
	return x
}

func every(use.Slot) bool { return true }

func keeps(r use.Rule, x use.Ratio) bool { return x.Due > 0 && 100*x.Flown >= r.Share*x.Due }

func missing(r use.Rule, x use.Ratio) int {
	n := 0
	for 100*(x.Flown+n) < r.Share*x.Due {
		n++
	}
	return n
}

func weekdays(r use.Rule, all []use.Slot, l []use.Note) int {
	mask := 0
	for w := range 7 {
		if keeps(r, ratioOf(r, all, l, func(s use.Slot) bool { return (s.Moment/1440+5)%7 == w })) {
			mask += 1 << w
		}
	}
	return mask
}

func table(r use.Rule, all []use.Slot, l []use.Note) []use.Row {
	rows := map[string]use.Row{}
	var names []string
	for _, s := range all {
		if rows[s.Name].Name == "" {
			x := ratioOf(r, all, l, func(other use.Slot) bool { return other.Name == s.Name })
			rows[s.Name] = use.Row{Name: s.Name, Ratio: x, Kept: keeps(r, x)}
			names = append(names, s.Name)
		}
	}
	slices.Sort(names)
	var sorted []use.Row
	for _, name := range names {
		sorted = append(sorted, rows[name])
	}
	return sorted
}

// lastSunday returns the day of the last Sunday of a month with 31 days.
func lastSunday(year int, month time.Month) int {
	date := time.Date(year, month, 31, 0, 0, 0, 0, time.UTC)
	for date.Weekday() != time.Sunday {
		date = date.AddDate(0, 0, -1)
	}
	return int(date.Sub(time.Date(2000, 1, 1, 0, 0, 0, 0, time.UTC)).Hours()) / 24
}

// spanOf returns the first and the last day of a season.
func spanOf(s calendar.Season) (int, int) {
	if s.Kind == "S" {
		return lastSunday(s.Year, time.March), lastSunday(s.Year, time.October) - 1
	}
	return lastSunday(s.Year, time.October), lastSunday(s.Year+1, time.March) - 1
}

// seasonOf returns the season of a day, or false if it is in none.
func seasonOf(day int) (calendar.Season, bool) {
	year := 2000 + day/365
	for y := max(2000, year-2); y <= min(year+1, 2272); y++ {
		for _, kind := range list("S", "W") {
			s := calendar.Season{Year: y, Kind: kind}
			if first, last := spanOf(s); first <= day && day <= last {
				return s, true
			}
		}
	}
	return calendar.Season{}, false
}

func historic(p api.Period, s calendar.Season) ([]api.Period, api.Errno) {
	var days []int
	var own calendar.Season
	for i, day := range daysOf(p) {
		of, isIn := seasonOf(day)
		if !isIn || i > 0 && of != own {
			return nil, api.ErrOutside
		}
		own = of
		first, _ := spanOf(own)
		begin, end := spanOf(s)
		if equivalent := begin + day - first; equivalent <= end {
			days = append(days, equivalent)
		}
	}
	if own != (calendar.Season{}) && own.Kind != s.Kind {
		return nil, api.ErrKind
	}
	return calendar.Join(days)
}

func rights(r use.Rule, requests []api.Request, l []use.Note, s calendar.Season) ([]use.Right, api.Errno) {
	var all []use.Right
	for _, q := range requests {
		if !keeps(r, ratioOf(r, slotsOf(q.Name, q.Kind, q.Period, q.Minute), l, every)) {
			continue
		}
		periods, e := historic(q.Period, s)
		if e != api.OK {
			return nil, e
		}
		all = append(all, use.Right{Name: q.Name, Periods: periods})
	}
	return all, api.OK
}
