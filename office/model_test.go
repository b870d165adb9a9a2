package office_test

import (
	"cmp"
	"slices"
	"strings"

	"turnround/api"
	"turnround/office"
)

// The definitions of the chapter, word by word and without haste.

func isName(s string) bool {
	if len(s) < 1 || len(s) > 24 {
		return false
	}
	for i := range len(s) {
		isLetter := 'a' <= s[i] && s[i] <= 'z' || 'A' <= s[i] && s[i] <= 'Z'
		isOther := '0' <= s[i] && s[i] <= '9' || s[i] == '_'
		if !isLetter && (i == 0 || !isOther) {
			return false
		}
	}
	return true
}

func isDay(day int) bool { return 0 <= day && day <= 99999 }

// shapeOf returns how many names and values an event of a kind has, or -1 for no kind.
func shapeOf(kind string) (int, int) {
	switch kind {
	case "enter", "rule":
		return 2, 4
	case "follow":
		return 3, 4
	case "reverse":
		return 1, 1
	case "complain":
		return 2, 1
	case "decide":
		return 1, 2
	}
	return -1, -1
}

func eventError(e api.Event) api.Errno {
	if e.Number < 1 || e.Number > 1000 {
		return api.ErrRange
	}
	names, values := shapeOf(e.Kind)
	if names < 0 {
		return api.ErrKind
	}
	if len(e.Names) != names || len(e.Values) != values {
		return api.ErrShape
	}
	for _, name := range e.Names {
		if !isName(name) {
			return api.ErrName
		}
	}
	for _, n := range e.Values {
		if n < 0 || n > 999999999 {
			return api.ErrRange
		}
	}
	if e.Text != "" {
		return api.ErrForm
	}
	return api.OK
}

// What follows is for events that are accepted, one after the other.

func entriesOf(l []api.Event) []office.Entry {
	var all []office.Entry
	for _, e := range l {
		switch e.Kind {
		case "enter", "rule", "follow":
			entry := office.Entry{Name: e.Names[0], Kind: e.Kind, Series: e.Names[1], Known: e.Values[0], From: e.Values[1], To: e.Values[2], Minute: e.Values[3]}
			if e.Kind == "follow" {
				entry.Base = e.Names[2]
			}
			all = append(all, entry)
		}
	}
	return all
}

func entryOf(l []api.Event, name string) (office.Entry, bool) {
	for _, e := range entriesOf(l) {
		if e.Name == name {
			return e, true
		}
	}
	return office.Entry{}, false
}

func complaintsOf(l []api.Event) []office.Complaint {
	var all []office.Complaint
	for _, e := range l {
		switch e.Kind {
		case "complain":
			all = append(all, office.Complaint{Name: e.Names[0], Entry: e.Names[1], Known: e.Values[0]})
		case "decide":
			for i := range all {
				if all[i].Name == e.Names[0] {
					all[i].Closed, all[i].Upheld = true, e.Values[1] == 1
				}
			}
		}
	}
	return all
}

func complaintOf(l []api.Event, name string) (office.Complaint, bool) {
	for _, c := range complaintsOf(l) {
		if c.Name == name {
			return c, true
		}
	}
	return office.Complaint{}, false
}

func removalsOf(l []api.Event) []office.Removal {
	var all []office.Removal
	for _, e := range l {
		switch {
		case e.Kind == "reverse":
			all = append(all, office.Removal{Entry: e.Names[0], Known: e.Values[0]})
		case e.Kind == "decide" && e.Values[1] == 1:
			c, _ := complaintOf(l, e.Names[0])
			all = append(all, office.Removal{Entry: c.Entry, Known: e.Values[0]})
		}
	}
	return all
}

func registerOf(l []api.Event) office.Register {
	r := office.Register{Entries: entriesOf(l), Removals: removalsOf(l), Complaints: complaintsOf(l)}
	if len(l) > 0 {
		r.Known = l[len(l)-1].Values[0]
	}
	return r
}

func rests(l []api.Event, e office.Entry, on string) bool {
	if e.Base == "" {
		return false
	}
	base, _ := entryOf(l, e.Base)
	return base.Name == on || rests(l, base, on)
}

func counts(l []api.Event, e office.Entry, known int) bool {
	if e.Known > known {
		return false
	}
	for _, x := range removalsOf(l) {
		if x.Known <= known && (x.Entry == e.Name || rests(l, e, x.Entry)) {
			return false
		}
	}
	return true
}

func minuteOf(l []api.Event, series string, known, day int) int {
	all := entriesOf(l)
	for i := len(all) - 1; i >= 0; i-- {
		if e := all[i]; e.Series == series && e.From <= day && day <= e.To && counts(l, e, known) {
			return e.Minute
		}
	}
	return 1440
}

// acceptError is the error with which an event is not accepted after events that were accepted.
func acceptError(l []api.Event, e api.Event) api.Errno {
	if e := eventError(e); e != api.OK {
		return e
	}
	known := e.Values[0]
	switch {
	case e.Number != len(l)+1:
		return api.ErrOrder
	case known < registerOf(l).Known:
		return api.ErrState
	case known > 99999:
		return api.ErrRange
	}
	switch e.Kind {
	case "reverse":
		return reverseError(l, e)
	case "complain":
		return complainError(l, e)
	case "decide":
		return decideError(l, e)
	}
	return entryError(l, e)
}

func entryError(l []api.Event, e api.Event) api.Errno {
	if _, isThere := entryOf(l, e.Names[0]); isThere {
		return api.ErrTwice
	}
	if len(entriesOf(l)) >= 256 {
		return api.ErrMany
	}
	if e.Kind == "follow" {
		base, isThere := entryOf(l, e.Names[2])
		if !isThere {
			return api.ErrUnknown
		}
		if !counts(l, base, e.Values[0]) {
			return api.ErrOver
		}
	}
	switch {
	case e.Values[1] > 99999 || e.Values[2] > 99999 || e.Values[3] > 1440:
		return api.ErrRange
	case e.Values[2] < e.Values[1]:
		return api.ErrOrder
	}
	return api.OK
}

func reverseError(l []api.Event, e api.Event) api.Errno {
	switch entry, isThere := entryOf(l, e.Names[0]); {
	case !isThere:
		return api.ErrUnknown
	case entry.Kind != "rule":
		return api.ErrKind
	case !counts(l, entry, e.Values[0]):
		return api.ErrOver
	}
	return api.OK
}

func complainError(l []api.Event, e api.Event) api.Errno {
	if _, isThere := complaintOf(l, e.Names[0]); isThere {
		return api.ErrTwice
	}
	if len(complaintsOf(l)) >= 64 {
		return api.ErrMany
	}
	switch entry, isThere := entryOf(l, e.Names[1]); {
	case !isThere:
		return api.ErrUnknown
	case !counts(l, entry, e.Values[0]):
		return api.ErrOver
	}
	return api.OK
}

func decideError(l []api.Event, e api.Event) api.Errno {
	switch c, isThere := complaintOf(l, e.Names[0]); {
	case !isThere:
		return api.ErrUnknown
	case c.Closed:
		return api.ErrOver
	case e.Values[1] > 1:
		return api.ErrRange
	}
	return api.OK
}

// replayError returns the number of the first event with an error, and the error.
func replayError(l []api.Event) (int, api.Errno) {
	if len(l) > 1000 {
		return 0, api.ErrMany
	}
	for i, e := range l {
		if e := acceptError(l[:i], e); e != api.OK {
			return i + 1, e
		}
	}
	return 0, api.OK
}

func periodError(p api.Period) api.Errno {
	switch {
	case !isDay(p.From) || !isDay(p.To):
		return api.ErrRange
	case p.To < p.From:
		return api.ErrOrder
	case p.To-p.From > 400:
		return api.ErrLarge
	case p.Days < 1 || p.Days > 127:
		return api.ErrRange
	}
	return api.OK
}

func hasDay(p api.Period, day int) bool {
	return p.From <= day && day <= p.To && p.Days&(1<<((day+5)%7)) != 0
}

// The questions, for arguments without an error.

func countingNames(l []api.Event, known int) []string {
	var all []string
	for _, e := range entriesOf(l) {
		if counts(l, e, known) {
			all = append(all, e.Name)
		}
	}
	return all
}

func restingNames(l []api.Event, entry string) []string {
	var all []string
	for _, e := range entriesOf(l) {
		if rests(l, e, entry) {
			all = append(all, e.Name)
		}
	}
	return all
}

func slotsAsOf(l []api.Event, known, day int) []office.Slot {
	var all []office.Slot
	for _, e := range entriesOf(l) {
		slot := office.Slot{Series: e.Series, Minute: minuteOf(l, e.Series, known, day)}
		if slot.Minute < 1440 && !slices.Contains(all, slot) {
			all = append(all, slot)
		}
	}
	slices.SortFunc(all, func(a, b office.Slot) int { return cmp.Compare(a.Series, b.Series) })
	return all
}

// historyOf looks at all days of knowledge up to the last event, and one more.
func historyOf(l []api.Event, series string, day int) []office.Turn {
	var turns []office.Turn
	before := 1440
	for known := 0; known <= min(registerOf(l).Known+1, 99999); known++ {
		if minute := minuteOf(l, series, known, day); minute != before {
			turns = append(turns, office.Turn{Known: known, Minute: minute})
			before = minute
		}
	}
	return turns
}

func differencesOf(l []api.Event, series string, first, second int, p api.Period) []int {
	var days []int
	for day := p.From; day <= p.To; day++ {
		if hasDay(p, day) && minuteOf(l, series, first, day) != minuteOf(l, series, second, day) {
			days = append(days, day)
		}
	}
	return days
}

func noteError(before []office.Note, n office.Note) api.Errno {
	switch {
	case !isName(n.Desk):
		return api.ErrName
	case n.Number < 1 || n.Number > 999999999 || !isDay(n.Day):
		return api.ErrRange
	case len(n.Text) < 1 || len(n.Text) > 80:
		return api.ErrForm
	}
	for i := range len(n.Text) {
		if n.Text[i] < 32 || n.Text[i] > 126 {
			return api.ErrForm
		}
	}
	for _, other := range before {
		if other.Desk == n.Desk && other.Number == n.Number && (other.Day != n.Day || other.Text != n.Text) {
			return api.ErrConflict
		}
	}
	return api.OK
}

func notesError(l []office.Note) api.Errno {
	if len(l) > 256 {
		return api.ErrMany
	}
	for i, n := range l {
		if e := noteError(l[:i], n); e != api.OK {
			return e
		}
	}
	return api.OK
}

func isBefore(a, b office.Note) bool {
	switch {
	case a.Day != b.Day:
		return a.Day < b.Day
	case a.Desk != b.Desk:
		return a.Desk < b.Desk
	}
	return a.Number < b.Number
}

// collected puts each note at its place, unless it is there.
func collected(l []office.Note) []office.Note {
	var all []office.Note
	for _, n := range l {
		if slices.Contains(all, n) {
			continue
		}
		at := 0
		for at < len(all) && isBefore(all[at], n) {
			at++
		}
		all = slices.Insert(all, at, n)
	}
	return all
}

func lacking(l []office.Note) ([]office.Missing, api.Errno) {
	greatest := map[string]int{}
	var desks []string
	for _, n := range l {
		if !slices.Contains(desks, n.Desk) {
			desks = append(desks, n.Desk)
		}
		greatest[n.Desk] = max(greatest[n.Desk], n.Number)
	}
	slices.Sort(desks)
	var all []office.Missing
	for _, desk := range desks {
		if greatest[desk] > 1000 {
			return nil, api.ErrLimit
		}
		missing := office.Missing{Desk: desk}
		for number := 1; number < greatest[desk]; number++ {
			if !slices.ContainsFunc(l, func(n office.Note) bool { return n.Desk == desk && n.Number == number }) {
				missing.Numbers = append(missing.Numbers, number)
			}
		}
		if missing.Numbers != nil {
			all = append(all, missing)
		}
	}
	return all, api.OK
}

// recovered tries all prefixes of a log that end with a line feed.
func recovered(log string) ([]api.Event, int, api.Errno) {
	if len(log) > 1000000 {
		return nil, 0, api.ErrLong
	}
	var events []api.Event
	length := 0
	for length < len(log) {
		rest := log[length:]
		at := strings.IndexByte(rest, '\n')
		if at < 0 {
			return events, length, api.ErrTorn
		}
		e, err := lineError(rest[:at], len(events)+1)
		if err != api.OK {
			return events, length, err
		}
		events = append(events, e)
		length += at + 1
	}
	return events, length, api.OK
}

func areDigits(s string) bool {
	return strings.Trim(s, "0123456789") == ""
}

// lineError is the event and the error of a line of a log.
func lineError(line string, number int) (api.Event, api.Errno) {
	at := len(line) - 8
	if at < 0 || line[at] != '#' || !areDigits(line[at+1:]) {
		return api.Event{}, api.ErrSyntax
	}
	if sum(line[:at]) != line[at+1:] {
		return api.Event{}, api.ErrCheck
	}
	e, isBody := eventOf(strings.Split(line[:at], " "))
	switch {
	case !isBody || eventError(e) != api.OK:
		return api.Event{}, api.ErrSyntax
	case e.Number != number:
		return api.Event{}, api.ErrOrder
	}
	return e, api.OK
}

// integer returns the number of a word, and whether it is an integer as in a log.
func integer(word string) (int, bool) {
	if len(word) < 1 || len(word) > 9 || !areDigits(word) || len(word) > 1 && word[0] == '0' {
		return 0, false
	}
	n := 0
	for i := range len(word) {
		n = 10*n + int(word[i]) - '0'
	}
	return n, true
}

// eventOf returns the event of the words of a body, and whether they have the form of one.
func eventOf(words []string) (api.Event, bool) {
	if len(words) < 2 {
		return api.Event{}, false
	}
	number, isNumber := integer(words[0])
	names, values := shapeOf(words[1])
	rest := words[2:]
	if !isNumber || names < 0 || len(rest) != names+values {
		return api.Event{}, false
	}
	e := api.Event{Number: number, Kind: words[1], Names: rest[:names]}
	for _, word := range rest[names:] {
		n, isNumber := integer(word)
		if !isNumber {
			return api.Event{}, false
		}
		e.Values = append(e.Values, n)
	}
	return e, !slices.Contains(e.Names, "")
}
