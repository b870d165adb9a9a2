package office_test

import (
	"fmt"
	"math"
	"slices"
	"strings"
	"testing"

	"turnround/api"
	"turnround/office"
)

var (
	oddNumbers = []int{math.MinInt, math.MinInt + 1, -1440, -1, 0, 1, 2, 4, 5, 9, 64, 65, 127, 128, 256, 257, 400, 1000, 1001, 1440, 1441, 99999, 100000, 999999999, 1000000000, math.MaxInt - 1, math.MaxInt}
	oddTexts   = []string{"", " ", "\n", "e", "r", "c", "enter", "rule", "follow", "reverse", "complain", "decide", "-", "\x00", "\xff\xfe", "\xe2\x82", "äö", "a b", strings.Repeat("a", 25), strings.Repeat("9", 20000)}
)

// oddArguments has arguments with odd numbers and texts, all of them or some beside usual ones.
func oddArguments() []arguments {
	var all []arguments
	for i, n := range oddNumbers {
		for j, text := range oddTexts {
			m := oddNumbers[(i+j)%len(oddNumbers)]
			e := api.Event{Number: n, Kind: text, Names: list(text, text), Values: list(n, m, n, m), Text: text}
			odd := arguments{
				l: list(e), e: e, series: text, entry: text, known: n, other: m, day: n, p: api.Period{From: n, To: m, Days: n},
				notes: list(note(text, n, m, text), note("T", m, n, text)), log: text,
			}
			all = append(all, odd)
			for _, change := range []func(x *arguments){
				func(x *arguments) { x.l = odd.l },
				func(x *arguments) { x.l = append(chapter(4), e) },
				func(x *arguments) { x.l = list(changed(chapter(1)[0], func(e *api.Event) { e.Number = n })) },
				func(x *arguments) { x.e = odd.e },
				func(x *arguments) { x.e.Names, x.e.Values = list(text, "a"), list(9, n, m, 0) },
				func(x *arguments) { x.e = api.Event{Number: 5, Kind: text, Names: list("r"), Values: list(n)} },
				func(x *arguments) { x.e.Number = n },
				func(x *arguments) { x.series, x.entry = text, text },
				func(x *arguments) { x.known, x.day = n, m },
				func(x *arguments) { x.other = n },
				func(x *arguments) { x.day = n },
				func(x *arguments) { x.p = api.Period{From: n, To: m, Days: 127} },
				func(x *arguments) { x.p.Days = n },
				func(x *arguments) { x.notes = list(note("T", n, 0, "a"), note("T", n, 0, text)) },
				func(x *arguments) { x.notes = list(note("T", 1, n, "a"), note(text, 2, 0, "a")) },
				func(x *arguments) { x.log += text },
				func(x *arguments) { x.log += text + "\n" },
				func(x *arguments) { x.log = sealed(fmt.Sprint(n, " reverse ", text, " ", m)) },
			} {
				all = append(all, changed(example(), change))
			}
		}
	}
	return all
}

// P1: no numbers and texts make a function panic, and what stands beside an error is zero, but for Replay and Recover.
func TestOddArguments(t *testing.T) {
	for i, x := range oddArguments() {
		for _, f := range functions {
			got := f.call(x)
			isOutcome(t, fmt.Sprint(f.name, " of the odd arguments ", i), got, f.model(x))
			if got.e != api.OK && f.name != "Replay" && f.name != "Recover" {
				isError(t, f.name+" beside an error", got, got.e)
			}
		}
	}
}

// P1: no kinds, names and values of an event make a function panic.
func TestOddEvents(t *testing.T) {
	x := noise(71)
	for range 20000 {
		a := arguments{l: chapter(x.next(7))}
		a.e = api.Event{Number: pick(&x, len(a.l)+1, len(a.l)+1, x.next(1003)-1), Kind: pick(&x, "enter", "rule", "follow", "reverse", "complain", "decide", "", "x"), Text: pick(&x, "", "", "", "x")}
		for range x.next(5) {
			a.e.Names = append(a.e.Names, pick(&x, pick(&x, "e", "r", "f", "c", "g"), pick(&x, oddTexts...)))
		}
		for range x.next(6) {
			a.e.Values = append(a.e.Values, pick(&x, 8+x.next(5), pick(&x, oddNumbers...)))
		}
		for _, name := range list("CheckEvent", "Accepts", "Append") {
			f := functionOf(name)
			a.log = logOf(a.l...)
			isOutcome(t, fmt.Sprint(name, " of ", a.e), f.call(a), f.model(a))
		}
		a.l = append(a.l, a.e)
		f := functionOf("Replay")
		isOutcome(t, fmt.Sprint("Replay of ", a.l), f.call(a), f.model(a))
	}
}

// P1: no lists of any length make a function panic.
func TestOddLists(t *testing.T) {
	for _, n := range []int{0, 1, 2, 3, 4, 5, 255, 256, 257, 1000, 1001, 100000} {
		for _, change := range []func(x *arguments){
			func(x *arguments) { x.l = make([]api.Event, n) },
			func(x *arguments) { x.notes = make([]office.Note, n) },
			func(x *arguments) { x.e.Names = make([]string, n) },
			func(x *arguments) { x.e.Values = make([]int, n) },
			func(x *arguments) { x.l[0].Names = make([]string, n) },
			func(x *arguments) { x.l[0].Values = make([]int, n) },
			func(x *arguments) { x.e.Kind, x.e.Names, x.e.Values = "", make([]string, n), make([]int, n) },
			func(x *arguments) { x.log = strings.Repeat("\n", n) },
			func(x *arguments) { x.log = strings.Repeat(" ", n) + "#" + sum(strings.Repeat(" ", n)) + "\n" },
		} {
			x := changed(example(), change)
			for _, f := range functions {
				isOutcome(t, fmt.Sprint(f.name, " of lists with the length ", n), f.call(x), f.model(x))
			}
		}
	}
}

// P1: no bytes make a session panic, and what stands beside an error is empty.
func TestOddLines(t *testing.T) {
	x := noise(72)
	words := append(list("open", "counts", "rests", "slot", "day", "5", "9", "16", "a", "e"), oddTexts...)
	for range 20000 {
		s := session(t, nil)
		l := chapter(0)
		for range 3 {
			line := pick(&x, words...)
			for range x.next(7) {
				line += pick(&x, " ", " ", " ", "  ", "\t", "") + pick(&x, pick(&x, words...), fmt.Sprint(pick(&x, oddNumbers...)))
			}
			got, e := s.Do(line)
			want, event, err := answer(l, line)
			is(t, fmt.Sprintf("Do %q", line), fmt.Sprintf("%q %d", got, e), fmt.Sprintf("%q %d", want, err))
			if event.Number > 0 {
				l = append(l, event)
			}
		}
	}
}

// copyArguments returns arguments that share no memory with others.
func copyArguments(x arguments) arguments {
	x.l, x.e, x.notes = copyEvents(x.l), copyEvent(x.e), slices.Clone(x.notes)
	return x
}

// isSame checks that arguments are equal to others.
func isSame(t *testing.T, what string, got, want arguments) {
	t.Helper()
	isEvents(t, what+": events", got.l, want.l)
	isEvents(t, what+": event", list(got.e), list(want.e))
	isList(t, what+": notes", got.notes, want.notes)
}

// spare returns a list with room behind its end.
func spare[T any](l []T, mark T) []T { return append(slices.Clone(l), mark, mark)[:len(l)] }

// spareEvent returns an event whose lists have room behind their ends.
func spareEvent(e api.Event) api.Event {
	e.Names, e.Values = spare(e.Names, "mark"), spare(e.Values, -7)
	return e
}

// isSpare reports whether there are still marks behind the lists of an event.
func isSpare(e api.Event) bool {
	return e.Names[:len(e.Names)+1][len(e.Names)] == "mark" && e.Values[:len(e.Values)+1][len(e.Values)] == -7
}

// Rules: arguments are not modified, nor is what stands behind a list.
func TestArgumentsStay(t *testing.T) {
	x := noise(73)
	mark := note("mark", 1, 1, "mark")
	for range 300 {
		a := copyArguments(x.someArguments())
		a.l, a.e, a.notes = spare(a.l, spareEvent(api.Event{Kind: "mark"})), spareEvent(a.e), spare(a.notes, mark)
		for i := range a.l {
			a.l[i] = spareEvent(a.l[i])
		}
		before := copyArguments(a)
		for _, f := range functions {
			f.call(a)
			isSame(t, f.name, a, before)
		}
		isLeft := isSpare(a.e) && a.l[:len(a.l)+1][len(a.l)].Kind == "mark" && a.notes[:len(a.notes)+1][len(a.notes)] == mark
		is(t, "what stands behind the lists", isLeft && !slices.ContainsFunc(a.l, func(e api.Event) bool { return !isSpare(e) }), true)
	}
}

// ruin changes everything in an outcome.
func ruin(x outcome) {
	clear(x.r.Entries)
	clear(x.r.Removals)
	clear(x.r.Complaints)
	clear(x.names)
	clear(x.slots)
	clear(x.turns)
	clear(x.days)
	clear(x.notes)
	for _, m := range x.missing {
		clear(m.Numbers)
	}
	clear(x.missing)
	ruinEvents(x.events)
}

func ruinEvents(l []api.Event) {
	for _, e := range l {
		clear(e.Names)
		clear(e.Values)
	}
	clear(l)
}

// Rules: results share no memory with arguments, or with other results.
func TestResultsShareNothing(t *testing.T) {
	x := noise(74)
	for range 300 {
		a := x.someArguments()
		before := copyArguments(a)
		for _, f := range functions {
			first, second := f.call(a), f.call(a)
			ruin(first)
			isSame(t, f.name+": arguments after a result was changed", a, before)
			isOutcome(t, f.name+": another result after one was changed", second, f.call(a))
		}
		r, _, _ := office.Replay(a.l)
		g, _ := office.Gather(a.notes)
		want, notes := registerOf(ok[[]api.Event](t)(a.l, api.OK)), slices.Clone(g)
		if _, e := replayError(a.l); e == api.OK {
			ruinEvents(a.l)
			isRegister(t, "a register after its events were changed", r, want)
		}
		clear(a.notes)
		isList(t, "notes after their list was changed", g, notes)
	}
}

// Rules: no two lists of one result share memory.
func TestListsOfResultsShareNothing(t *testing.T) {
	x := noise(75)
	for range 300 {
		a := x.someArguments()
		l, _, _ := office.Recover(a.log)
		want := copyEvents(l)
		for i := range l {
			_ = append(l[i].Names, "ruin")
			_ = append(l[i].Values, 7)
			isEvents(t, "events behind whose lists something was put", l, want)
			clear(l[i].Names)
			clear(l[i].Values)
			l[i].Names, l[i].Values = slices.Clone(want[i].Names), slices.Clone(want[i].Values)
			isEvents(t, "events after the lists of one were changed", l, want)
		}
		missing, _ := office.Lacking(a.notes)
		wanted, _ := office.Lacking(a.notes)
		for i := range missing {
			_ = append(missing[i].Numbers, 7)
			is(t, "the missing notes of other desks", slices.EqualFunc(missing, wanted, equalMissing), true)
		}
	}
}

// Rules: nil and empty lists are equivalent arguments.
func TestEmptyLists(t *testing.T) {
	none := example()
	none.l, none.notes, none.log, none.e.Number, none.entry = nil, nil, "", 1, "r"
	empty := none
	empty.l, empty.notes = []api.Event{}, []office.Note{}
	for _, f := range functions {
		isOutcome(t, f.name+" of empty lists", f.call(empty), f.call(none))
		isOutcome(t, f.name+" of no lists", f.call(none), f.model(none))
	}
	bare := list(api.Event{Number: 1, Kind: "enter"}, api.Event{Number: 1, Kind: "enter", Names: []string{}, Values: []int{}})
	for _, e := range bare {
		is(t, "an event without lists", office.CheckEvent(e), api.ErrShape)
	}
}

// Rules: what a session returns shares no memory with it.
func TestSessionsShareNothing(t *testing.T) {
	s := session(t, chapter(4))
	ruinEvents(s.Events())
	isEvents(t, "Events after others were changed", s.Events(), chapter(4))
	events := s.Events()
	isDone(t, s, "complain c e 10", "done 5")
	_ = append(events, api.Event{Number: 9})
	for i := range events {
		_ = append(events[i].Names, "ruin")
		_ = append(events[i].Values, 7)
	}
	isEvents(t, "Events before a line", events, chapter(4))
	isEvents(t, "Events after a line", s.Events(), chapter(5))
	is(t, "Log after a line", s.Log(), logOf(chapter(5)...))
}

// Rules: a session does not depend on another one, also on one with the same beginning.
func TestSessionsAreApart(t *testing.T) {
	log := logOf(chapter(3)...)
	first, second := ok[*office.Session](t)(office.Open(log)), ok[*office.Session](t)(office.Open(log))
	isDone(t, first, "reverse r 9", "done 4")
	isDone(t, second, "counts 9", "e r f")
	isDone(t, second, "complain c e 8", "done 4")
	isDone(t, first, "open", "none")
	copied := *first
	isDone(t, first, "complain c e 9", "done 5")
	isDone(t, &copied, "open", "none")
	isDone(t, &copied, "complain d e 9", "done 5")
	isDone(t, first, "open", "c")
	isDone(t, &copied, "open", "d")
	isDone(t, first, "decide c 9 1", "done 6")
	isDone(t, &copied, "counts 9", "e")
	isEvents(t, "Events of the first one", first.Events(), then(chapter(4), complain("c", "e", 9), decide("c", 9, 1)))
	isEvents(t, "Events of its copy", copied.Events(), then(chapter(4), complain("d", "e", 9)))
	none, other := office.New(), office.New()
	isDone(t, none, "enter e a 5 10 20 600", "done 1")
	is(t, "the log of another new session", other.Log(), "")
}

// Rules: a result depends only on the arguments.
func TestSameResults(t *testing.T) {
	x := noise(76)
	for range 100 {
		a := x.someArguments()
		for _, f := range functions {
			want := f.call(a)
			for range 5 {
				isOutcome(t, f.name+" once more", f.call(copyArguments(a)), want)
			}
		}
	}
}
