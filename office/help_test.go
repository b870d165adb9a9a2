package office_test

import (
	"fmt"
	"math"
	"slices"
	"strings"
	"testing"

	"turnround/api"
	"turnround/office"
)

var (
	names   = []string{"a", "Z", "q1", "A_9", "none", "enter", strings.Repeat("x", 24)}
	noNames = []string{"", "-", "1a", "_a", "a-b", "a b", " a", "a\n", "a#", "\x00", "\xff", "ä", "aé", strings.Repeat("a", 25)}

	noDays = []int{math.MinInt, -1, 100000, math.MaxInt}

	everyDay = api.Period{From: 10, To: 20, Days: 127}
)

func is[T comparable](t *testing.T, what string, got, want T) {
	t.Helper()
	if got != want {
		t.Errorf("%s: got %v, want %v", what, got, want)
	}
}

// isList compares lists; nil and empty ones are equal.
func isList[T comparable](t *testing.T, what string, got, want []T) {
	t.Helper()
	if !slices.Equal(got, want) {
		t.Errorf("%s: got %v, want %v", what, got, want)
	}
}

func isEvents(t *testing.T, what string, got, want []api.Event) {
	t.Helper()
	if !slices.EqualFunc(got, want, equalEvents) {
		t.Errorf("%s: got %v, want %v", what, got, want)
	}
}

func equalEvents(a, b api.Event) bool {
	return a.Number == b.Number && a.Kind == b.Kind && slices.Equal(a.Names, b.Names) && slices.Equal(a.Values, b.Values) && a.Text == b.Text
}

func isRegister(t *testing.T, what string, got, want office.Register) {
	t.Helper()
	if !equalRegisters(got, want) {
		t.Errorf("%s: got %v, want %v", what, got, want)
	}
}

func equalRegisters(a, b office.Register) bool {
	return a.Known == b.Known && slices.Equal(a.Entries, b.Entries) && slices.Equal(a.Removals, b.Removals) && slices.Equal(a.Complaints, b.Complaints)
}

// ok returns a result that is to be without an error.
func ok[T any](t *testing.T) func(T, api.Errno) T {
	return func(value T, e api.Errno) T {
		t.Helper()
		is(t, "error", e, api.OK)
		return value
	}
}

func list[T any](all ...T) []T { return all }

// changed returns a value with changes.
func changed[T any](x T, changes ...func(*T)) T {
	for _, change := range changes {
		change(&x)
	}
	return x
}

func event(kind string, names []string, values ...int) api.Event {
	return api.Event{Number: 1, Kind: kind, Names: names, Values: values}
}

func enter(name, series string, known, from, to, minute int) api.Event {
	return event("enter", list(name, series), known, from, to, minute)
}

func rule(name, series string, known, from, to, minute int) api.Event {
	return event("rule", list(name, series), known, from, to, minute)
}

func follow(name, series, base string, known, from, to, minute int) api.Event {
	return event("follow", list(name, series, base), known, from, to, minute)
}

func reverse(entry string, known int) api.Event { return event("reverse", list(entry), known) }

func complain(name, entry string, known int) api.Event {
	return event("complain", list(name, entry), known)
}

func decide(name string, known, outcome int) api.Event {
	return event("decide", list(name), known, outcome)
}

// numbered returns copies of events with the numbers 1, 2, 3 and so on.
func numbered(events ...api.Event) []api.Event {
	all := copyEvents(events)
	for i := range all {
		all[i].Number = i + 1
	}
	return all
}

// then returns events with further ones behind them.
func then(l []api.Event, more ...api.Event) []api.Event { return numbered(slices.Concat(l, more)...) }

func copyEvent(e api.Event) api.Event {
	e.Names, e.Values = slices.Clone(e.Names), slices.Clone(e.Values)
	return e
}

func copyEvents(l []api.Event) []api.Event {
	l = slices.Clone(l)
	for i, e := range l {
		l[i] = copyEvent(e)
	}
	return l
}

// chapter returns the first n events of the chapter's examples.
func chapter(n int) []api.Event {
	return numbered(
		enter("e", "a", 5, 10, 20, 600),
		rule("r", "a", 7, 15, 20, 660),
		follow("f", "b", "r", 8, 15, 20, 700),
		reverse("r", 9),
		complain("c", "e", 10),
		decide("c", 11, 1),
	)[:n]
}

// entries returns events that enter n entries with the names n0, n1, .., each one of a series of its own.
func entries(n int) []api.Event {
	var all []api.Event
	for i := range n {
		all = append(all, enter(fmt.Sprint("n", i), fmt.Sprint("s", i), 5, 10, 20, i))
	}
	return numbered(all...)
}

// complaints returns events that enter e, and complain about it with the names c0, c1, .. n times.
func complaints(n int) []api.Event {
	all := chapter(1)
	for i := range n {
		all = append(all, complain(fmt.Sprint("c", i), "e", 5))
	}
	return numbered(all...)
}

// chain returns the events of a ruling n0 and n - 1 entries n1, n2, .. each of which rests on the one before.
func chain(n int) []api.Event {
	all := list(rule("n0", "a", 0, 0, 99999, 0))
	for i := 1; i < n; i++ {
		all = append(all, follow(fmt.Sprint("n", i), "a", fmt.Sprint("n", i-1), i, 0, 99999, i))
	}
	return numbered(all...)
}

func note(desk string, number, day int, text string) office.Note {
	return office.Note{Desk: desk, Number: number, Day: day, Text: text}
}

// body is the body of an event, word by word.
func body(e api.Event) string {
	text := fmt.Sprint(e.Number) + " " + e.Kind
	for _, name := range e.Names {
		text += " " + name
	}
	for _, n := range e.Values {
		text += " " + fmt.Sprint(n)
	}
	return text
}

// sum is the checksum of a string, without haste.
func sum(s string) string {
	x := 1
	for i := range len(s) {
		x = (281*x + int(s[i])) % 9999943
	}
	return fmt.Sprintf("%07d", x)
}

// sealed is a line of a log with its checksum.
func sealed(line string) string { return line + "#" + sum(line) + "\n" }

// logOf is the log of events.
func logOf(l ...api.Event) string {
	log := ""
	for _, e := range l {
		log += sealed(body(e))
	}
	return log
}

// noise is a fixed sequence of numbers from 0 to n - 1 for inputs of many forms.
type noise uint32

func (x *noise) next(n int) int {
	*x = *x*1664525 + 1013904223
	return int(*x>>8) % n
}

// pick returns one of some values.
func pick[T any](x *noise, values ...T) T { return values[x.next(len(values))] }

// shuffled returns a list in another order.
func shuffled[T any](x *noise, l []T) []T {
	l = slices.Clone(l)
	for i := range l {
		j := x.next(i + 1)
		l[i], l[j] = l[j], l[i]
	}
	return l
}

var (
	someEntries    = []string{"e", "f", "g", "h", "r", "q", "n1", "n2", "n3", "n4"}
	someSeries     = []string{"a", "b", "B"}
	someComplaints = []string{"c", "d", "e", "k"}
)

// nextEvent has an event that may be accepted after others: most of its names are there, or free, as they have to be.
func (x *noise) nextEvent(l []api.Event) api.Event {
	known := x.next(3)
	if len(l) > 0 {
		known += l[len(l)-1].Values[0]
	}
	from := x.next(30)
	name, base := pick(x, someEntries...), pick(x, someEntries...)
	complaint, decided := pick(x, someComplaints...), pick(x, someComplaints...)
	if x.next(2) == 0 {
		name, complaint = fmt.Sprint("x", len(l)), fmt.Sprint("c", len(l))
		if there := entriesOf(l); len(there) > 0 {
			base = pick(x, there...).Name
		}
		if there := complaintsOf(l); len(there) > 0 {
			decided = pick(x, there...).Name
		}
	}
	series, to, minute := pick(x, someSeries...), from+x.next(20)-1, pick(x, 0, 5, 600, 660, 1439, 1440, x.next(1440))
	return changed(pick(x,
		enter(name, series, known, from, to, minute), rule(name, series, known, from, to, minute),
		follow(name, series, base, known, from, to, minute), follow(name, series, base, known, from, to, minute),
		reverse(base, known), complain(complaint, base, known), decide(decided, known, x.next(2)),
	), func(e *api.Event) { e.Number = len(l) + 1 })
}

// someEvents has about n events that are accepted, one after the other.
func (x *noise) someEvents(n int) []api.Event {
	var l []api.Event
	for range 2 * n {
		if e := x.nextEvent(l); len(l) < n && acceptError(l, e) == api.OK {
			l = append(l, e)
		}
	}
	return l
}

// someDesks has notes of some desks, of which some arrive twice; no two contradict each other.
func (x *noise) someDesks(n int) []office.Note {
	var l []office.Note
	for range x.next(n + 1) {
		desk, number := pick(x, "T", "N", "n", "ops", "T1"), 1+x.next(12)
		l = append(l, note(desk, number, (number*7+len(desk))%5, fmt.Sprint("message ", number)))
	}
	return l
}
