package use_test

import (
	"fmt"
	"math"
	"slices"
	"strings"
	"testing"

	"turnround/api"
	"turnround/calendar"
	"turnround/use"
)

var (
	names   = []string{"a", "Z", "q1", "A_9", strings.Repeat("x", 24)}
	noNames = []string{"", "-", "1a", "_a", "a-b", "a b", "a\n", "\x00", "\xff", "ä", "aé", strings.Repeat("a", 25)}

	noKinds   = []string{"", "a", "T", "AD", "\x00"}
	noDays    = []int{math.MinInt, -1, 100000, math.MaxInt}
	noMoments = []int{math.MinInt, -1, 144000000, math.MaxInt}
	noMinutes = []int{math.MinInt, -1, 1440, 9999, math.MaxInt}

	// The season S of 2026 is from 9584 to 9793, that of 2025 from 9220 to 9429, and W of 2025 begins on 9430.
	summer = calendar.Season{Year: 2025, Kind: "S"}
	winter = calendar.Season{Year: 2025, Kind: "W"}
)

func is[T comparable](t *testing.T, what string, got, want T) {
	t.Helper()
	if got != want {
		t.Errorf("%s: got %v, want %v", what, got, want)
	}
}

// isList compares lists; nil and empty ones are equal.
func isList[T comparable](t *testing.T, what string, got, want []T) {
	t.Helper()
	if !slices.Equal(got, want) {
		t.Errorf("%s: got %v, want %v", what, got, want)
	}
}

// ok returns a result that is to be without an error.
func ok[T any](t *testing.T) func(T, api.Errno) T {
	return func(value T, e api.Errno) T {
		t.Helper()
		is(t, "error", e, api.OK)
		return value
	}
}

func list[T any](all ...T) []T { return all }

// changed returns a value with changes.
func changed[T any](x T, changes ...func(*T)) T {
	for _, change := range changes {
		change(&x)
	}
	return x
}

// rule is the rule R of the chapter's examples, with changes.
func rule(changes ...func(*use.Rule)) use.Rule {
	r := use.Rule{Before: 15, After: 30, Notice: 7, Share: 80, Causes: list("strike"), Off: 10, Run: 3}
	return changed(r, changes...)
}

func within(before, after int) func(*use.Rule) {
	return func(r *use.Rule) { r.Before, r.After = before, after }
}

func notice(days int) func(*use.Rule) {
	return func(r *use.Rule) { r.Notice = days }
}

func share(percent int) func(*use.Rule) {
	return func(r *use.Rule) { r.Share = percent }
}

func causes(causes ...string) func(*use.Rule) {
	return func(r *use.Rule) { r.Causes = causes }
}

func misuse(off, run int) func(*use.Rule) {
	return func(r *use.Rule) { r.Off, r.Run = off, run }
}

func slot(name string, moment int, kind string) use.Slot {
	return use.Slot{Name: name, Moment: moment, Kind: kind}
}

// at returns arrivals of the series x.
func at(moments ...int) []use.Slot {
	var all []use.Slot
	for _, m := range moments {
		all = append(all, slot("x", m, "A"))
	}
	return all
}

func pair(slot, record int) use.Match { return use.Match{Slot: slot, Record: record} }

func fly(name string, moment int, move string) use.Note {
	return use.Note{Kind: "fly", Name: name, Moment: moment, Move: move}
}

func back(name string, from, to, told int) use.Note {
	return use.Note{Kind: "back", Name: name, From: from, To: to, Told: told}
}

func cancel(name string, from, to int, cause string) use.Note {
	return use.Note{Kind: "cancel", Name: name, From: from, To: to, Cause: cause}
}

func weather(from, to int) use.Note { return use.Note{Kind: "weather", From: from, To: to} }

func on(from, to, mask int) api.Period { return api.Period{From: from, To: to, Days: mask} }

// request is a request whose other fields have no effect.
func request(name, kind string, p api.Period, minute int) api.Request {
	return api.Request{Name: name, Kind: kind, Period: p, Minute: minute, Carrier: "-", Terminal: "-", Partner: "-", Link: name, Seats: -1, Size: -1, Noise: -1}
}

// five are the departures of the chapter's second example, on the days 0 to 4.
func five(t *testing.T) []use.Slot {
	t.Helper()
	return ok[[]use.Slot](t)(use.SlotsOf("x", "D", on(0, 4, 127), 600))
}

// fiveNotes are the records of the chapter's second example.
func fiveNotes() []use.Note {
	return list(fly("x", 600, "D"), fly("x", 1440+605, "D"), back("x", 2, 2, 0), cancel("x", 3, 3, "strike"))
}

// badPeriods has periods with each error, and with later errors beside it.
var badPeriods = []struct {
	what string
	p    api.Period
	e    api.Errno
}{
	{"no day", on(-1, 10, 1), api.ErrRange},
	{"no last day", on(10, 100000, 1), api.ErrRange},
	{"the last day before the first one, and no mask", on(11, 10, 0), api.ErrOrder},
	{"a long one, and no mask", on(10, 411, 0), api.ErrLarge},
	{"no mask", on(10, 20, 0), api.ErrRange},
	{"a large mask", on(10, 20, 128), api.ErrRange},
}

// goodRules has rules on the edges of what is permitted.
func goodRules() []use.Rule {
	all := list(
		rule(), rule(within(0, 0)), rule(within(720, 720)), rule(notice(0)), rule(notice(365)), rule(share(1)), rule(share(100)),
		rule(misuse(0, 1)), rule(misuse(720, 512)), rule(causes()), rule(causes(names...)), rule(causes("a", "A")), rule(causes(manyNames(16)...)),
		use.Rule{Share: 1, Run: 1},
	)
	for _, s := range names {
		all = append(all, rule(causes(s)))
	}
	return all
}

// manyNames returns n names.
func manyNames(n int) []string {
	var all []string
	for i := range n {
		all = append(all, fmt.Sprint("n", i))
	}
	return all
}

// goodSlots has slots on the edges of what is permitted.
func goodSlots() [][]use.Slot {
	all := [][]use.Slot{nil, at(0), at(143999999), at(5, 5), at(9, 5), list(slot("x", 5, "D")), slices.Repeat(at(5), 512)}
	for _, s := range names {
		all = append(all, list(slot(s, 5, "A")))
	}
	return all
}

// goodNotes has records on the edges of what is permitted.
func goodNotes() [][]use.Note {
	all := [][]use.Note{
		nil, fiveNotes(), list(fly("x", 0, "A")), list(fly("x", 143999999, "D")), list(fly("x", 5, "A"), fly("x", 5, "A")),
		list(back("x", 0, 0, 0)), list(back("x", 0, 99999, 99999)), list(back("x", 99999, 99999, 0)), list(back("x", 5, 6, 7)),
		list(cancel("x", 0, 0, "y")), list(cancel("x", 0, 99999, "x")), list(cancel("x", 99999, 99999, "y")),
		list(weather(0, 0)), list(weather(0, 99999)), list(weather(99999, 99999)), slices.Repeat(list(weather(5, 6)), 512),
	}
	for _, s := range names {
		all = append(all, list(fly(s, 5, "A"), back(s, 5, 6, 0), cancel(s, 5, 6, s)))
	}
	return all
}

// noise is a fixed sequence of numbers from 0 to n - 1 for inputs of many forms.
type noise uint32

func (x *noise) next(n int) int {
	*x = *x*1664525 + 1013904223
	return int(*x>>8) % n
}

// pick returns one of some values.
func pick[T any](x *noise, values ...T) T { return values[x.next(len(values))] }

// shuffled returns a list in another order.
func shuffled[T any](x *noise, l []T) []T {
	l = slices.Clone(l)
	for i := range l {
		j := x.next(i + 1)
		l[i], l[j] = l[j], l[i]
	}
	return l
}
