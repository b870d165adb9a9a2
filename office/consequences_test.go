package office_test

import (
	"fmt"
	"slices"
	"strings"
	"testing"

	"turnround/api"
	"turnround/office"
)

// P10.1, P10.2, P10.3, P10.4: the chapter's examples.
func TestExamples(t *testing.T) {
	l := chapter(3)
	for _, x := range []struct {
		series             string
		known, day, minute int
	}{{"a", 6, 16, 600}, {"a", 7, 16, 660}, {"b", 8, 16, 700}, {"a", 5, 12, 600}, {"a", 7, 12, 600}, {"a", 8, 12, 600}, {"a", 99999, 12, 600}} {
		is(t, fmt.Sprint("1: ", x), ok[int](t)(office.Minute(l, x.series, x.known, x.day)), x.minute)
	}

	l = chapter(4)
	isList(t, "2: as of 9", ok[[]string](t)(office.Counting(l, 9)), list("e"))
	isList(t, "2: on 16", ok[[]office.Slot](t)(office.AsOf(l, 9, 16)), list(slot("a", 600)))
	isList(t, "2: as of 8", ok[[]string](t)(office.Counting(l, 8)), list("e", "r", "f"))
	isList(t, "2: rests on r", ok[[]string](t)(office.Resting(l, "r")), list("f"))
	isList(t, "2: history", ok[[]office.Turn](t)(office.History(l, "a", 16)), list(turn(5, 600), turn(7, 660), turn(9, 600)))
	isList(t, "2: differences", ok[[]int](t)(office.Differences(l, "a", 8, 9, everyDay)), list(15, 16, 17, 18, 19, 20))

	five := func(e api.Event) api.Event { return changed(e, func(e *api.Event) { e.Number = 5 }) }
	is(t, "3: follow", office.Accepts(l, five(follow("g", "b", "r", 9, 15, 20, 700))), api.ErrOver)
	is(t, "3: reverse", office.Accepts(l, five(reverse("e", 9))), api.ErrKind)
	isList(t, "3: as of 11", ok[[]office.Slot](t)(office.AsOf(chapter(6), 11, 16)), nil)

	notes := list(note("T", 2, 4, "x"), note("T", 1, 3, "x"), note("N", 1, 3, "x"))
	isList(t, "4: collected", ok[[]office.Note](t)(office.Gather(notes)), list(notes[2], notes[1], notes[0]))
	isOutcome(t, "4: missing", ofMissing(office.Lacking(list(note("T", 1, 3, "x"), note("T", 4, 3, "x")))), outcome{missing: list(missing("T", 2, 3))})

	for s, right := range map[string]string{"": "0000001", "1": "0000330", "11": "0092779"} {
		_, _, e := office.Recover(s + "#" + right + "\n")
		is(t, "5: the checksum of "+s, e, api.ErrSyntax)
	}
}

// answers has what is known as of a day of knowledge.
func answers(t *testing.T, l []api.Event, known int) string {
	t.Helper()
	text := fmt.Sprint(ok[[]string](t)(office.Counting(l, known)))
	for _, day := range []int{0, 5, 12, 15, 22, 29, 45} {
		text += fmt.Sprint(" ", ok[[]office.Slot](t)(office.AsOf(l, known, day)))
		for _, series := range someSeries {
			text += fmt.Sprint(" ", ok[int](t)(office.Minute(l, series, known, day)))
		}
	}
	return text
}

// upTo returns the turns of a history up to a day of knowledge.
func upTo(l []office.Turn, known int) []office.Turn {
	return slices.DeleteFunc(slices.Clone(l), func(x office.Turn) bool { return x.Known > known })
}

// P10.6: what was known on a day does not change by what is known later.
func TestKnowledgeStays(t *testing.T) {
	x := noise(61)
	later := 0
	for range 25 {
		l := x.someEvents(30)
		for n := range len(l) {
			known := registerOf(l[:n]).Known
			if l[n].Values[0] == known {
				continue // This is not later.
			}
			later++
			what := fmt.Sprint("as of ", known, " before and after ", n, l)
			is(t, what, answers(t, l[:n], known), answers(t, l, known))
			if known > 0 {
				is(t, "the day before "+what, answers(t, l[:n], known-1), answers(t, l, known-1))
			}
			for _, series := range someSeries {
				before := ok[[]office.Turn](t)(office.History(l[:n], series, 15))
				isList(t, "History "+what, before, upTo(ok[[]office.Turn](t)(office.History(l, series, 15)), known))
			}
		}
	}
	is(t, fmt.Sprint("there are some: ", later), later > 100, true)
}

// P10.6: a reversed ruling, or an upheld complaint, takes away exactly the entry and those that rest on it, and leaves the others.
func TestRemovalsTakeAwayWhatRests(t *testing.T) {
	x := noise(62)
	removals, resting := 0, 0
	for range 300 {
		l := x.someEvents(30)
		for n, e := range l {
			if e.Kind != "reverse" && (e.Kind != "decide" || e.Values[1] == 0) {
				continue
			}
			removals++
			r := registerOf(l[:n+1])
			gone := r.Removals[len(r.Removals)-1].Entry
			with := append(ok[[]string](t)(office.Resting(l[:n], gone)), gone)
			resting += len(with) - 1
			// Before the event, but as of the same day.
			before := ok[[]string](t)(office.Counting(l[:n], e.Values[0]))
			left := slices.DeleteFunc(slices.Clone(before), func(name string) bool { return slices.Contains(with, name) })
			isList(t, fmt.Sprint("what is left after ", l[:n+1]), ok[[]string](t)(office.Counting(l[:n+1], e.Values[0])), left)
		}
	}
	is(t, fmt.Sprint("there are some: ", removals, resting), removals > 100 && resting > 100, true)
}

// P10.6: a history has the minutes of all days of knowledge.
func TestHistoriesAreMinutes(t *testing.T) {
	x := noise(63)
	turns := 0
	for range 100 {
		l := x.someEvents(30)
		day := x.next(40)
		for _, series := range someSeries {
			history := ok[[]office.Turn](t)(office.History(l, series, day))
			turns += len(history)
			for known := range registerOf(l).Known + 2 {
				minute := 1440
				if before := upTo(history, known); len(before) > 0 {
					minute = before[len(before)-1].Minute
				}
				is(t, fmt.Sprint("Minute of ", series, known, day, l), ok[int](t)(office.Minute(l, series, known, day)), minute)
			}
			for i, x := range history {
				is(t, "each turn is another minute, on a later day", i == 0 && x.Minute < 1440 || i > 0 && x.Minute != history[i-1].Minute && x.Known > history[i-1].Known, true)
			}
		}
	}
	is(t, fmt.Sprint("there are some turns: ", turns), turns > 300, true)
}

// P10.6: two days of knowledge differ on the days on which their minutes do.
func TestDifferencesAreMinutes(t *testing.T) {
	x := noise(64)
	for range 200 {
		a := x.someArguments()
		days, e := office.Differences(a.l, a.series, a.known, a.other, a.p)
		if e != api.OK {
			continue
		}
		for day := a.p.From; day <= a.p.To; day++ {
			first, second := ok[int](t)(office.Minute(a.l, a.series, a.known, day)), ok[int](t)(office.Minute(a.l, a.series, a.other, day))
			is(t, fmt.Sprint("Differences on ", day, a), slices.Contains(days, day), first != second && hasDay(a.p, day))
		}
		again := ok[[]int](t)(office.Differences(a.l, a.series, a.other, a.known, a.p))
		isList(t, "Differences the other way round", again, days)
	}
}

// P10.6: notes are collected to the same list in whatever order, and however often, they arrive.
func TestNotesInAnyOrder(t *testing.T) {
	x := noise(65)
	several := 0
	for range 400 {
		l := x.someDesks(60)
		want := ok[[]office.Note](t)(office.Gather(l))
		lacks, _ := office.Lacking(l)
		several += len(want)
		more := shuffled(&x, slices.Concat(l, shuffled(&x, l)[:x.next(len(l)+1)], l))
		isOutcome(t, fmt.Sprint("Gather of ", more), ofNotes(office.Gather(more)), outcome{notes: want})
		isOutcome(t, fmt.Sprint("Lacking of ", more), ofMissing(office.Lacking(more)), outcome{missing: lacks})
		isOutcome(t, fmt.Sprint("Gather again of ", want), ofNotes(office.Gather(want)), outcome{notes: want})
		for _, n := range l {
			is(t, "a note is collected once", len(slices.DeleteFunc(slices.Clone(want), func(other office.Note) bool { return other != n })), 1)
		}
		is(t, "what is missing and what is there", isWhole(want, lacks), true)
	}
	is(t, fmt.Sprint("there are some notes: ", several), several > 2000, true)
}

// isWhole reports whether collected and missing notes have each number of a desk up to its greatest one once.
func isWhole(l []office.Note, lacks []office.Missing) bool {
	numbers := map[string][]int{}
	for _, n := range l {
		numbers[n.Desk] = append(numbers[n.Desk], n.Number)
	}
	for _, m := range lacks {
		numbers[m.Desk] = append(numbers[m.Desk], m.Numbers...)
	}
	for _, all := range numbers {
		slices.Sort(all)
		for i, n := range all {
			if n != i+1 {
				return false
			}
		}
	}
	return true
}

// P10.6: a log of which a byte is changed to another one, neither of which is a line feed, is not recovered as a whole.
func TestChangedBytes(t *testing.T) {
	log := logOf(chapter(6)...)
	for i := range len(log) {
		if log[i] == '\n' {
			continue
		}
		n := strings.Count(log[:i], "\n")
		for b := range 256 {
			if byte(b) == '\n' || byte(b) == log[i] {
				continue
			}
			other := log[:i] + string([]byte{byte(b)}) + log[i+1:]
			l, length, e := office.Recover(other)
			is(t, fmt.Sprintf("Recover of %q", other), e == api.ErrSyntax || e == api.ErrCheck, true)
			isEvents(t, "the records before it", l, chapter(n))
			is(t, "their length", length, strings.LastIndex(log[:i], "\n")+1)
			s, e2 := office.Open(other)
			is(t, fmt.Sprintf("Open of %q", other), e2, e)
			is(t, "no session", s == nil, true)
		}
	}
}

// P10.6: the log of a session gives the session again.
func TestLogsAreSessions(t *testing.T) {
	x := noise(66)
	for range 100 {
		s := office.New()
		log := ""
		for _, e := range x.someEvents(30) {
			isDone(t, s, body(e)[len(fmt.Sprint(e.Number))+1:], fmt.Sprint("done ", e.Number))
			log = ok[string](t)(office.Append(log, e))
		}
		is(t, "the log of a session", s.Log(), log)
		again := ok[*office.Session](t)(office.Open(log))
		isEvents(t, "the events of a log", again.Events(), s.Events())
		isOutcome(t, "Replay of a session", ofReplay(office.Replay(s.Events())), outcome{r: registerOf(again.Events())})
		for range 20 {
			line := x.someLine(again.Events())
			first, e := s.Do(line)
			second, e2 := again.Do(line)
			is(t, "the same answer to "+line, fmt.Sprint(second, e2), fmt.Sprint(first, e))
		}
	}
}

// P10.6: an event that is accepted can be replayed, and no other one.
func TestAcceptedIsReplayed(t *testing.T) {
	x := noise(67)
	seen := map[bool]int{}
	for range 2000 {
		a := x.someArguments()
		if _, e := replayError(a.l); e != api.OK {
			continue
		}
		e := office.Accepts(a.l, a.e)
		seen[e == api.OK]++
		_, at, e2 := office.Replay(append(copyEvents(a.l), a.e))
		want := 0
		if e != api.OK {
			want = len(a.l) + 1
		}
		is(t, fmt.Sprint("Replay of ", a.e, " after ", a.l), fmt.Sprint(at, e2), fmt.Sprint(want, e))
	}
	is(t, fmt.Sprint("there are some of each: ", seen), seen[true] > 100 && seen[false] > 100, true)
}
