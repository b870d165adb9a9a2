package ground_test

import (
	"fmt"
	"math"
	"slices"
	"strings"
	"testing"

	"turnround/api"
	"turnround/ground"
)

var (
	names   = []string{"a", "Z", "q1", "A_9", strings.Repeat("x", 24)}
	noNames = []string{"-", "1a", "_a", "a-b", "a b", "a\n", "\x00", "\xff", "ä", "aé", strings.Repeat("a", 25)}

	noMoments = []int{math.MinInt, -1, 144000000, math.MaxInt}
	noMinutes = []int{math.MinInt, -1, 1440, 9999, math.MaxInt}
	noSizes   = []int{math.MinInt, -1, 0, 10, math.MaxInt}
	noBuffers = []int{math.MinInt, -1, 241, math.MaxInt}
)

// bad is a value with an error.
type bad[T any] struct {
	what  string
	value T
	e     api.Errno
}

func is[T comparable](t *testing.T, what string, got, want T) {
	t.Helper()
	if got != want {
		t.Errorf("%s: got %v, want %v", what, got, want)
	}
}

// isList compares lists; nil and empty ones are equal.
func isList[T comparable](t *testing.T, what string, got, want []T) {
	t.Helper()
	if !slices.Equal(got, want) {
		t.Errorf("%s: got %v, want %v", what, got, want)
	}
}

// ok returns a result that is to be without an error.
func ok[T any](t *testing.T) func(T, api.Errno) T {
	return func(value T, e api.Errno) T {
		t.Helper()
		is(t, "error", e, api.OK)
		return value
	}
}

func list[T any](all ...T) []T { return all }

// changed returns a value with changes.
func changed[T any](x T, changes ...func(*T)) T {
	for _, change := range changes {
		change(&x)
	}
	return x
}

// stand is a stand of the size 5 without a terminal, with changes.
func stand(name string, changes ...func(*ground.Stand)) ground.Stand {
	return changed(ground.Stand{Name: name, Size: 5}, changes...)
}

// turn is a turnaround of the size 1 without a terminal, with changes.
func turn(name string, start, end int, changes ...func(*ground.Turn)) ground.Turn {
	return changed(ground.Turn{Name: name, Start: start, End: end, Size: 1}, changes...)
}

func ofSize(size int) func(*ground.Turn) {
	return func(t *ground.Turn) { t.Size = size }
}

func at(terminal string) func(*ground.Turn) {
	return func(t *ground.Turn) { t.Terminal = terminal }
}

func upTo(size int) func(*ground.Stand) {
	return func(s *ground.Stand) { s.Size = size }
}

func in(terminal string) func(*ground.Stand) {
	return func(s *ground.Stand) { s.Terminal = terminal }
}

// movement is a movement of the size 1, with changes.
func movement(moment int, kind string, changes ...func(*api.Movement)) api.Movement {
	return changed(api.Movement{Moment: moment, Kind: kind, Size: 1, Name: "x"}, changes...)
}

func called(name string) func(*api.Movement) {
	return func(m *api.Movement) { m.Name = name }
}

func withSeats(seats int) func(*api.Movement) {
	return func(m *api.Movement) { m.Seats = seats }
}

func withSize(size int) func(*api.Movement) {
	return func(m *api.Movement) { m.Size = size }
}

func withNoise(points int) func(*api.Movement) {
	return func(m *api.Movement) { m.Noise = points }
}

func using(terminal string) func(*api.Movement) {
	return func(m *api.Movement) { m.Terminal = terminal }
}

// two has the stands of the chapter's examples.
func two() []ground.Stand { return list(stand("s", upTo(2)), stand("b")) }

// xyz has the turnarounds of the chapter's examples.
func xyz() []ground.Turn {
	return list(turn("x", 0, 60), turn("y", 30, 90, ofSize(2)), turn("z", 60, 100, ofSize(4)))
}

// stands returns n stands with the names s0, s1, ..
func stands(n int) []ground.Stand {
	var all []ground.Stand
	for i := range n {
		all = append(all, stand(fmt.Sprint("s", i)))
	}
	return all
}

// turns returns n turnarounds with the names t0, t1, .. one after another.
func turns(n int) []ground.Turn {
	var all []ground.Turn
	for i := range n {
		all = append(all, turn(fmt.Sprint("t", i), 10*i, 10*i+10))
	}
	return all
}

// badStands has stands with each error, and with later errors beside it.
func badStands() []bad[ground.Stand] {
	var all []bad[ground.Stand]
	add := func(what string, s ground.Stand, e api.Errno) {
		all = append(all, bad[ground.Stand]{what, s, e})
	}
	for _, s := range append([]string{""}, noNames...) {
		add("name "+s, stand(s), api.ErrName)
		add("name "+s+" and more", stand(s, upTo(0), in("1")), api.ErrName)
	}
	for _, n := range noSizes {
		add(fmt.Sprint("size ", n), stand("x", upTo(n)), api.ErrRange)
		add(fmt.Sprint("size ", n, " and more"), stand("x", upTo(n), in("1")), api.ErrRange)
	}
	for _, s := range noNames {
		add("terminal "+s, stand("x", in(s)), api.ErrForm)
	}
	return all
}

// badTurns has turnarounds with each error, and with later errors beside it.
func badTurns() []bad[ground.Turn] {
	var all []bad[ground.Turn]
	add := func(what string, t ground.Turn, e api.Errno) {
		all = append(all, bad[ground.Turn]{what, t, e})
	}
	for _, s := range append([]string{""}, noNames...) {
		add("name "+s, turn(s, 5, 9), api.ErrName)
		add("name "+s+" and more", turn(s, -1, -1, ofSize(0), at("1")), api.ErrName)
	}
	for _, n := range noMoments {
		add(fmt.Sprint("start ", n), turn("x", n, 143999999), api.ErrRange)
		add(fmt.Sprint("end ", n), turn("x", 0, n), api.ErrRange)
		add(fmt.Sprint("start and end ", n), turn("x", n, n), api.ErrRange)
	}
	for _, times := range [][2]int{{1, 0}, {143999999, 143999998}, {143999999, 0}} {
		add(fmt.Sprint("from and to ", times), turn("x", times[0], times[1]), api.ErrOrder)
		add(fmt.Sprint("from and to ", times, " and more"), turn("x", times[0], times[1], ofSize(0), at("1")), api.ErrOrder)
	}
	for _, n := range noSizes {
		add(fmt.Sprint("size ", n), turn("x", 5, 9, ofSize(n)), api.ErrRange)
		add(fmt.Sprint("size ", n, " and more"), turn("x", 5, 9, ofSize(n), at("1")), api.ErrRange)
	}
	for _, s := range noNames {
		add("terminal "+s, turn("x", 5, 9, at(s)), api.ErrForm)
	}
	return all
}

// badMovements has movements with each error, and with later errors beside it.
func badMovements() []bad[api.Movement] {
	var all []bad[api.Movement]
	add := func(what string, e api.Errno, changes ...func(*api.Movement)) {
		all = append(all, bad[api.Movement]{what, movement(5, "A", changes...), e})
	}
	on := func(moment int, kind string) func(*api.Movement) {
		return func(m *api.Movement) { m.Moment, m.Kind = moment, kind }
	}
	for _, n := range noMoments {
		add(fmt.Sprint("moment ", n), api.ErrRange, on(n, "A"))
		add(fmt.Sprint("moment ", n, " and more"), api.ErrRange, on(n, "T"), using("1"), called(""))
	}
	for _, s := range []string{"", "a", "d", "T", "AD", "D ", "\x00"} {
		add("kind "+s, api.ErrKind, on(5, s))
		add("kind "+s+" and more", api.ErrKind, on(5, s), using("1"), withSize(0), called(""))
	}
	for _, s := range noNames {
		add("terminal "+s, api.ErrForm, using(s))
		add("terminal "+s+" and more", api.ErrForm, using(s), withSeats(-1), withSize(0), withNoise(-1), called(""))
	}
	for _, n := range []int{math.MinInt, -1, 1000, math.MaxInt} {
		add(fmt.Sprint("seats ", n), api.ErrRange, withSeats(n))
		add(fmt.Sprint("seats ", n, " and more"), api.ErrRange, withSeats(n), called(""))
	}
	for _, n := range noSizes {
		add(fmt.Sprint("size ", n), api.ErrRange, withSize(n))
		add(fmt.Sprint("size ", n, " and more"), api.ErrRange, withSize(n), called(""))
	}
	for _, n := range []int{math.MinInt, -1, 100, math.MaxInt} {
		add(fmt.Sprint("noise ", n), api.ErrRange, withNoise(n))
		add(fmt.Sprint("noise ", n, " and more"), api.ErrRange, withNoise(n), called(""))
	}
	for _, s := range append([]string{""}, noNames...) {
		add("name "+s, api.ErrName, called(s))
	}
	return all
}

// badStandLists has lists of stands with an error.
func badStandLists() []bad[[]ground.Stand] {
	all := []bad[[]ground.Stand]{
		{"33 stands", stands(33), api.ErrMany},
		{"33 empty stands", make([]ground.Stand, 33), api.ErrMany},
		{"twice", list(stand("a"), stand("a")), api.ErrTwice},
		{"twice among others", list(stand("b"), stand("a"), stand("c"), stand("a", in("t1"))), api.ErrTwice},
		{"twice at last", append(stands(31), stand("s0")), api.ErrTwice},
		{"twice before a size", list(stand("a"), stand("a", upTo(0))), api.ErrTwice},
		{"twice before a terminal", list(stand("a"), stand("a", in("1"))), api.ErrTwice},
		{"twice before a later error", list(stand("a"), stand("a"), stand("")), api.ErrTwice},
		{"an error before twice", list(stand("a"), stand("b", in("1")), stand("a")), api.ErrForm},
		{"no name twice", list(stand(""), stand("")), api.ErrName},
	}
	for _, x := range badStands() {
		all = append(all,
			bad[[]ground.Stand]{x.what, list(x.value), x.e},
			bad[[]ground.Stand]{x.what + " behind another one", list(stand("other"), x.value, stand("", in("1"))), x.e},
		)
	}
	return all
}

// badTurnLists has lists of turnarounds with an error.
func badTurnLists() []bad[[]ground.Turn] {
	all := []bad[[]ground.Turn]{
		{"257 turnarounds", turns(257), api.ErrMany},
		{"257 empty turnarounds", make([]ground.Turn, 257), api.ErrMany},
		{"twice", list(turn("a", 5, 9), turn("a", 5, 9)), api.ErrTwice},
		{"twice among others", list(turn("b", 5, 9), turn("a", 5, 9), turn("c", 5, 9), turn("a", 50, 90)), api.ErrTwice},
		{"twice at last", append(turns(255), turn("t0", 0, 0)), api.ErrTwice},
		{"twice before a start", list(turn("a", 5, 9), turn("a", -1, 9)), api.ErrTwice},
		{"twice before an order", list(turn("a", 5, 9), turn("a", 9, 5)), api.ErrTwice},
		{"twice before a terminal", list(turn("a", 5, 9), turn("a", 5, 9, at("1"))), api.ErrTwice},
		{"twice before a later error", list(turn("a", 5, 9), turn("a", 5, 9), turn("", 5, 9)), api.ErrTwice},
		{"an error before twice", list(turn("a", 5, 9), turn("b", 9, 5), turn("a", 5, 9)), api.ErrOrder},
		{"no name twice", list(turn("", 5, 9), turn("", 5, 9)), api.ErrName},
	}
	for _, x := range badTurns() {
		all = append(all,
			bad[[]ground.Turn]{x.what, list(x.value), x.e},
			bad[[]ground.Turn]{x.what + " behind another one", list(turn("other", 5, 9), x.value, turn("", 9, 5)), x.e},
		)
	}
	return all
}

// badMovementLists has lists of movements with an error.
func badMovementLists() []bad[[]api.Movement] {
	m := movement(5, "A")
	all := []bad[[]api.Movement]{
		{"257 movements", slices.Repeat(list(m), 257), api.ErrMany},
		{"257 empty movements", make([]api.Movement, 257), api.ErrMany},
	}
	for _, x := range badMovements() {
		all = append(all,
			bad[[]api.Movement]{x.what, list(x.value), x.e},
			bad[[]api.Movement]{x.what + " behind another one", list(m, x.value, movement(-1, "", called(""))), x.e},
		)
	}
	return all
}

// noise is a fixed sequence of numbers from 0 to n - 1 for inputs of many forms.
type noise uint32

func (x *noise) next(n int) int {
	*x = *x*1664525 + 1013904223
	return int(*x>>8) % n
}

// pick returns one of some values.
func pick[T any](x *noise, values ...T) T { return values[x.next(len(values))] }
