package use_test

import (
	"fmt"
	"math"
	"slices"
	"strings"
	"testing"

	"turnround/api"
	"turnround/calendar"
	"turnround/use"
)

var (
	oddNumbers = []int{math.MinInt, math.MinInt + 1, -1440, -1, 0, 1, 2, 4, 8, 16, 17, 64, 65, 100, 101, 127, 128, 365, 366, 400, 512, 513, 720, 721, 1439, 1440, 2025, 2272, 2273, 9594, 99999, 100000, 143999999, 144000000, 999999999, math.MaxInt - 1, math.MaxInt}
	oddTexts   = []string{"", " ", "\n", "A", "D", "S", "W", "x", "y", "fly", "back", "cancel", "weather", "strike", "-", "\x00", "\xff\xfe", "\xe2\x82", "äö", strings.Repeat("a", 25), strings.Repeat("9", 20000)}
)

// oddArguments has arguments with odd numbers and texts, all of them or some beside usual ones.
func oddArguments() []arguments {
	var all []arguments
	for i, n := range oddNumbers {
		text, m := oddTexts[i%len(oddTexts)], oddNumbers[len(oddNumbers)-1-i]
		odd := arguments{
			r:     use.Rule{Before: n, After: m, Notice: n, Share: m, Causes: list(text), Off: n, Run: m},
			slots: list(slot(text, n, text), slot("x", m, "A")), records: list(slot("x", n, "A"), slot(text, m, text)),
			l:       list(use.Note{Kind: text, Name: text, Moment: n, Move: text, From: n, To: m, Cause: text, Told: n}),
			matches: list(pair(n, m), pair(m, n)), c: use.Cover{Slots: list(n, m), Records: list(m, n)}, x: use.Ratio{Flown: n, Due: m},
			name: text, kind: text, p: on(n, m, n), minute: n, s: calendar.Season{Year: n, Kind: text}, requests: list(request(text, text, on(n, m, n), m)),
		}
		all = append(all, odd)
		for _, change := range []func(x *arguments){
			func(x *arguments) { x.r = odd.r },
			func(x *arguments) { x.r = rule(within(n, n)) },
			func(x *arguments) { x.r = rule(notice(n)) },
			func(x *arguments) { x.r = rule(share(n)) },
			func(x *arguments) { x.r = rule(causes(text)) },
			func(x *arguments) { x.r = rule(misuse(0, n)) },
			func(x *arguments) { x.r = rule(misuse(n, 1)) },
			func(x *arguments) { x.slots = odd.slots },
			func(x *arguments) { x.slots = at(n, n) },
			func(x *arguments) { x.slots = list(slot(text, 5, "A")) },
			func(x *arguments) { x.records = odd.records },
			func(x *arguments) { x.records = at(n, n) },
			func(x *arguments) { x.l = odd.l },
			func(x *arguments) { x.l = list(fly("x", n, "A"), fly(text, 5, "A")) },
			func(x *arguments) { x.l = list(back("x", n, n, m), back("x", 0, n, n), back(text, 5, 6, 0)) },
			func(x *arguments) { x.l = list(cancel("x", n, n, "strike"), cancel("x", 5, 6, text)) },
			func(x *arguments) { x.l = list(weather(n, n), weather(0, n)) },
			func(x *arguments) { x.matches = list(pair(0, n)) },
			func(x *arguments) { x.matches = list(pair(n, 0)) },
			func(x *arguments) { x.matches = list(pair(0, 0), pair(n, m)) },
			func(x *arguments) { x.c = odd.c },
			func(x *arguments) { x.c = use.Cover{Slots: list(n)} },
			func(x *arguments) { x.c = use.Cover{Slots: list(0), Records: list(n)} },
			func(x *arguments) { x.x = use.Ratio{Flown: 0, Due: n} },
			func(x *arguments) { x.x = use.Ratio{Flown: n, Due: n} },
			func(x *arguments) { x.name = text },
			func(x *arguments) { x.kind = text },
			func(x *arguments) { x.p = on(n, n, 127) },
			func(x *arguments) { x.p = on(n, m, 127) },
			func(x *arguments) { x.p = on(9594, 9700, n) },
			func(x *arguments) { x.minute = n },
			func(x *arguments) { x.s = calendar.Season{Year: n, Kind: "S"} },
			func(x *arguments) { x.s = calendar.Season{Year: 2025, Kind: text} },
			func(x *arguments) { x.requests = list(request("x", "A", on(n, n, 127), 600)) },
			func(x *arguments) { x.requests = list(request("x", text, on(9594, 9594, 127), 600)) },
			func(x *arguments) { x.requests = list(request(text, "A", on(9594, 9594, 127), n)) },
		} {
			all = append(all, changed(example(), change))
		}
	}
	return all
}

// P1: no numbers and texts make a function panic, and what stands beside an error is zero.
func TestOddArguments(t *testing.T) {
	for i, x := range oddArguments() {
		for _, f := range functions {
			got := f.call(x)
			isOutcome(t, fmt.Sprint(f.name, " of the odd arguments ", i), got, f.want(x))
			if got.e != api.OK {
				isError(t, f.name+" beside an error", got, got.e)
			}
		}
	}
}

// P1: no lists of any length make a function panic.
func TestOddLists(t *testing.T) {
	for _, n := range []int{0, 1, 2, 16, 17, 64, 65, 512, 513, 1000, 100000} {
		for _, f := range functions {
			for _, change := range []func(x *arguments){
				func(x *arguments) { x.r.Causes = make([]string, n) },
				func(x *arguments) { x.slots = make([]use.Slot, n) },
				func(x *arguments) { x.records = make([]use.Slot, n) },
				func(x *arguments) { x.l = make([]use.Note, n) },
				func(x *arguments) { x.requests = make([]api.Request, n) },
				func(x *arguments) { x.matches = make([]use.Match, n) },
				func(x *arguments) { x.c = use.Cover{Slots: make([]int, n)} },
				func(x *arguments) { x.c = use.Cover{Records: make([]int, n)} },
				func(x *arguments) { *x = arguments{matches: make([]use.Match, n), c: use.Cover{Slots: make([]int, n)}} },
			} {
				x := changed(example(), change)
				isOutcome(t, fmt.Sprint(f.name, " of lists with the length ", n), f.call(x), f.want(x))
			}
		}
	}
}

// crowded has as many slots and records as there can be, all of them possible pairs of each other.
func crowded(n int) arguments {
	x := example()
	x.slots = slices.Repeat(at(100), n)
	x.records = slices.Repeat(at(100), 512)
	x.l = slices.Repeat(list(fly("x", 100, "A")), 512)
	x.matches, x.c = nil, use.Cover{}
	return x
}

// P1: the largest lists are matched to their end.
func TestLargestLists(t *testing.T) {
	full := crowded(512)
	l := ok[[]use.Match](t)(use.Matches(full.r, full.slots, full.records))
	is(t, "matches", len(l), 512)
	is(t, "the last one", l[511], pair(511, 511))
	for _, f := range functions {
		want := api.OK
		if f.name == "CheckCover" {
			want = api.ErrProof // Nothing is no cover of it.
		}
		is(t, f.name+" of the largest lists", f.call(full).e, want)
	}
	is(t, "the ratio", ok[use.Ratio](t)(use.RatioOf(full.r, full.slots, full.l)), use.Ratio{Flown: 512, Due: 512})
	few := crowded(512)
	few.records = few.records[:511]
	c := ok[use.Cover](t)(use.Covered(few.r, few.slots, few.records))
	is(t, "slots of the cover", len(c.Slots), 0)
	is(t, "movements of the cover", len(c.Records), 511)
	is(t, "CheckCover", use.CheckCover(few.r, few.slots, few.records, c), api.OK)
	c = ok[use.Cover](t)(use.Covered(few.r, few.records, few.slots))
	is(t, "slots of the other cover", len(c.Slots), 511)
	// A chain in which the last slot reaches all movements.
	long, steps := rule(within(60, 60)), everyHour(512, 0)
	c = ok[use.Cover](t)(use.Covered(long, at(steps...), at(steps[:511]...)))
	is(t, "movements of the cover of a chain", len(c.Records), 511)
}

// P1: the rights of the largest requests.
func TestLargestRights(t *testing.T) {
	var requests []api.Request
	var l []use.Note
	for i, name := range manyNames(64) {
		requests = append(requests, request(name, "D", on(99599, 99999, 127), i))
		l = append(l, slices.Repeat(list(back(name, 99600, 99999, 0), fly(name, 1440*99599+i, "D")), 4)...)
	}
	rights, e := use.Rights(rule(), requests, l, calendar.Season{Year: 2272, Kind: "W"})
	isError(t, "Rights after all seasons", ofRights(rights, e), api.ErrOutside)
	for i := range requests {
		requests[i].Period = on(9584, 9793, 127)
	}
	rights = ok[[]use.Right](t)(use.Rights(rule(), requests, list(weather(0, 99999)), summer))
	is(t, "rights", len(rights), 64)
	is(t, "the first day of the last one", rights[63].Periods[0], on(9220, 9220, 64))
}

// copyArguments returns arguments that share no memory with others.
func copyArguments(x arguments) arguments {
	x.r.Causes = slices.Clone(x.r.Causes)
	x.slots, x.records, x.l, x.matches, x.requests = slices.Clone(x.slots), slices.Clone(x.records), slices.Clone(x.l), slices.Clone(x.matches), slices.Clone(x.requests)
	x.c.Slots, x.c.Records = slices.Clone(x.c.Slots), slices.Clone(x.c.Records)
	return x
}

// isSame checks that arguments are equal to others.
func isSame(t *testing.T, what string, got, want arguments) {
	t.Helper()
	isList(t, what+": causes", got.r.Causes, want.r.Causes)
	isList(t, what+": slots", got.slots, want.slots)
	isList(t, what+": actual movements", got.records, want.records)
	isList(t, what+": records", got.l, want.l)
	isList(t, what+": matches", got.matches, want.matches)
	isList(t, what+": requests", got.requests, want.requests)
	isList(t, what+": slots of a cover", got.c.Slots, want.c.Slots)
	isList(t, what+": movements of a cover", got.c.Records, want.c.Records)
}

// spare returns a list with room behind its end.
func spare[T any](l []T, mark T) []T {
	return append(slices.Clone(l), mark, mark)[:len(l)]
}

// isSpare reports whether there is still a mark behind a list.
func isSpare[T comparable](l []T, mark T) bool { return l[:len(l)+1][len(l)] == mark }

// Rules: arguments are not modified, nor is what stands behind a list.
func TestArgumentsStay(t *testing.T) {
	x := noise(81)
	mark, note, q := slot("mark", 1, "A"), weather(1, 1), request("mark", "A", on(1, 1, 1), 1)
	for range 500 {
		a := x.someArguments()
		a.r.Causes, a.slots, a.records, a.l = spare(a.r.Causes, "mark"), spare(a.slots, mark), spare(a.records, mark), spare(a.l, note)
		a.matches, a.requests = spare(a.matches, pair(1, 1)), spare(a.requests, q)
		a.c.Slots, a.c.Records = spare(a.c.Slots, 1), spare(a.c.Records, 1)
		before := copyArguments(a)
		for _, f := range functions {
			f.call(a)
			isSame(t, f.name, a, before)
		}
		isLeft := isSpare(a.r.Causes, "mark") && isSpare(a.slots, mark) && isSpare(a.records, mark) && isSpare(a.l, note) &&
			isSpare(a.matches, pair(1, 1)) && isSpare(a.requests, q) && isSpare(a.c.Slots, 1) && isSpare(a.c.Records, 1)
		is(t, "what stands behind the lists", isLeft, true)
	}
}

// ruin changes everything in an outcome.
func ruin(x outcome) {
	clear(x.slots)
	clear(x.matches)
	clear(x.numbers)
	clear(x.texts)
	clear(x.rows)
	clear(x.periods)
	clear(x.c.Slots)
	clear(x.c.Records)
	for _, right := range x.rights {
		clear(right.Periods)
	}
	clear(x.rights)
}

// Rules: results share no memory with arguments, or with other results.
func TestResultsShareNothing(t *testing.T) {
	x := noise(82)
	for range 500 {
		a := x.someArguments()
		before := copyArguments(a)
		for _, f := range functions {
			first, second := f.call(a), f.call(a)
			ruin(first)
			isSame(t, f.name+": arguments after a result was changed", a, before)
			isOutcome(t, f.name+": another result after one was changed", second, f.call(a))
		}
		c, _ := use.Covered(a.r, a.slots, a.records)
		other, _ := use.Covered(a.r, a.slots, a.records)
		slots, records := slices.Clone(other.Slots), slices.Clone(other.Records)
		ruin(outcome{c: c})
		_ = append(other.Slots, 99)
		isList(t, "slots of another cover", other.Slots, slots)
		isList(t, "movements of another cover", other.Records, records)
	}
}

// Rules: no two lists of one result share memory.
func TestListsOfResultsShareNothing(t *testing.T) {
	x := noise(83)
	for range 500 {
		a := x.someArguments()
		rights, _ := use.Rights(a.r, a.requests, a.l, a.s)
		for i := range rights {
			var before [][]api.Period
			for _, right := range rights {
				before = append(before, slices.Clone(right.Periods))
			}
			_ = append(rights[i].Periods, on(1, 2, 3))
			clear(rights[i].Periods)
			for j, right := range rights {
				if j != i {
					isList(t, "the periods of another right", right.Periods, before[j])
				}
			}
			copy(rights[i].Periods, before[i])
		}
		c, _ := use.Covered(a.r, a.slots, a.records)
		records := slices.Clone(c.Records)
		_ = append(c.Slots, 99)
		clear(c.Slots)
		isList(t, "the movements of a cover after its slots were changed", c.Records, records)
	}
}

// Rules: nil and empty lists are equivalent arguments.
func TestEmptyLists(t *testing.T) {
	none := example()
	none.r.Causes, none.slots, none.records, none.l, none.matches, none.requests, none.c = nil, nil, nil, nil, nil, nil, use.Cover{}
	empty := none
	empty.r.Causes, empty.slots, empty.records, empty.l = []string{}, []use.Slot{}, []use.Slot{}, []use.Note{}
	empty.matches, empty.requests, empty.c = []use.Match{}, []api.Request{}, use.Cover{Slots: []int{}, Records: []int{}}
	for _, f := range functions {
		isOutcome(t, f.name+" of empty lists", f.call(empty), f.call(none))
		f.is(t, "no lists", none, api.OK)
	}
}
