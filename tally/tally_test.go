package tally_test

import (
	"fmt"
	"slices"
	"testing"

	"turnround/api"
	"turnround/capacity"
	"turnround/tally"
)

// hour is a limit of one movement an hour on the days 2 and 3, with changes.
func hour(changes ...func(*capacity.Limit)) capacity.Limit {
	l := capacity.Limit{Name: "hour", Kind: "T", Length: 60, Step: 60, From: 0, To: 1439, Period: api.Period{From: 2, To: 3, Days: 127}, Most: 1}
	for _, change := range changes {
		change(&l)
	}
	return l
}

func series(kind, terminal string, minute int, days ...int) tally.Series {
	return tally.Series{Kind: kind, Terminal: terminal, Days: days, Minute: minute}
}

// movementsOf returns the movements of series, which ascend.
func movementsOf(all ...tally.Series) []api.Movement {
	var movements []api.Movement
	for _, s := range all {
		for _, day := range s.Days {
			movements = append(movements, api.Movement{Moment: 1440*day + s.Minute, Kind: s.Kind, Terminal: s.Terminal, Name: "x"})
		}
	}
	slices.SortFunc(movements, func(a, b api.Movement) int { return a.Moment - b.Moment })
	return movements
}

// exceededWith returns the windows of further movements that are exceeded with them, by package capacity.
func exceededWith(limits []capacity.Limit, others, further []tally.Series) []capacity.Window {
	var windows []capacity.Window
	all := movementsOf(slices.Concat(others, further)...)
	for i, l := range limits {
		for day := l.Period.From; day <= l.Period.To; day++ {
			begins, _ := capacity.Begins(l, day)
			for _, begin := range begins {
				own, _ := capacity.Count(l, movementsOf(further...), begin)
				if n, _ := capacity.Count(l, all, begin); own > 0 && n > l.Most {
					windows = append(windows, capacity.Window{Limit: i, Begin: begin, Count: n})
				}
			}
		}
	}
	return windows
}

// isTally checks what would be exceeded by further movements.
func isTally(t *testing.T, what string, got *tally.Tally, want []capacity.Window, further ...tally.Series) {
	t.Helper()
	if windows := slices.Collect(got.Exceeded(further...)); !slices.Equal(windows, want) {
		t.Errorf("%s: Exceeded: got %v, want %v", what, windows, want)
	}
	w, e := got.First(further...)
	if len(want) == 0 && (e != api.ErrNone || w != capacity.Window{}) || len(want) > 0 && (e != api.OK || w != want[0]) {
		t.Errorf("%s: First: got %v, %d, want the first of %v", what, w, e, want)
	}
	if fits := got.Fits(further...); fits != (len(want) == 0) {
		t.Errorf("%s: Fits: got %v", what, fits)
	}
}

// Terms: a limit is a greatest number of movements in each of its windows; what was put counts until it is taken.
func TestPutAndTake(t *testing.T) {
	limits := []capacity.Limit{hour(), hour(func(l *capacity.Limit) { l.Kind, l.Most, l.Length, l.Step = "D", 0, 90, 30 })}
	got := tally.Of(limits)
	a, d := series("A", "", 610, 1, 2, 3, 4), series("D", "t", 650, 3)
	isTally(t, "nothing beside nothing", got, nil)
	isTally(t, "an arrival", got, nil, a)
	isTally(t, "a departure", got, []capacity.Window{{Limit: 1, Begin: 4890, Count: 1}, {Limit: 1, Begin: 4920, Count: 1}, {Limit: 1, Begin: 4950, Count: 1}}, d)
	isTally(t, "both", got, []capacity.Window{{Limit: 0, Begin: 4920, Count: 2}, {Limit: 1, Begin: 4890, Count: 1}, {Limit: 1, Begin: 4920, Count: 1}, {Limit: 1, Begin: 4950, Count: 1}}, a, d)
	got.Put(a)
	isTally(t, "an arrival on four days twice", got, []capacity.Window{{Begin: 3480, Count: 2}, {Begin: 4920, Count: 2}}, a)
	isTally(t, "nothing beside an arrival", got, nil)
	got.Put(d, a)
	isTally(t, "beside three", got, []capacity.Window{{Begin: 3480, Count: 3}, {Begin: 4920, Count: 4}}, a)
	got.Take(a)
	isTally(t, "beside two", got, []capacity.Window{{Begin: 3480, Count: 2}, {Begin: 4920, Count: 3}}, a)
	got.Take(a, d)
	isTally(t, "an arrival beside what was taken", got, nil, a)
	isTally(t, "no limits", tally.Of(nil), nil, a, d)
}

// Terms: a series has a movement on each of its days, also beyond midnight.
func TestBeyondMidnight(t *testing.T) {
	got := tally.Of([]capacity.Limit{hour()})
	got.Put(series("A", "", 10, 2, 3))
	isTally(t, "in the first hour", got, []capacity.Window{{Begin: 2880, Count: 2}, {Begin: 4320, Count: 2}}, series("D", "", 1450, 0, 1, 2, 3))
	isTally(t, "in the second hour", got, nil, series("D", "", 1500, 0, 1, 2, 3))
	night := tally.Of([]capacity.Limit{hour(func(l *capacity.Limit) { l.Length, l.Step = 1440, 1439 })})
	night.Put(series("A", "", 1439, 3))
	isTally(t, "a window that ends on the next day", night, []capacity.Window{{Begin: 4320 + 1439, Count: 2}}, series("A", "", 1438, 4))
	isTally(t, "a moment behind it", night, nil, series("A", "", 1439, 4))
	isTally(t, "the first window", night, nil, series("A", "", 2*1440-1, 0))
	isTally(t, "before the first window", tally.Of([]capacity.Limit{hour(func(l *capacity.Limit) { l.Most = 0 })}), nil, series("A", "", 0, 0), series("A", "", 1439, 1))
}

// Terms: a request is a series on all days of its period.
func TestSeriesOf(t *testing.T) {
	q := api.Request{Name: "q", Carrier: "x", Kind: "D", Terminal: "t", Period: api.Period{From: 0, To: 9, Days: 96}, Minute: 600}
	s := tally.SeriesOf(q)
	other := s.At(700)
	if s.Kind != "D" || s.Terminal != "t" || s.Minute != 600 || !slices.Equal(s.Days, []int{0, 1, 7, 8}) {
		t.Errorf("SeriesOf: got %v", s)
	}
	if other.Kind != "D" || other.Terminal != "t" || other.Minute != 700 || !slices.Equal(other.Days, s.Days) {
		t.Errorf("At: got %v", other)
	}
}

// Terms: a movement counts in the windows of a limit for its kind and terminal that contain its moment.
func TestCountsIn(t *testing.T) {
	l := hour(func(l *capacity.Limit) { l.Kind, l.Terminal = "A", "t" })
	for _, x := range []struct {
		what  string
		s     tally.Series
		begin int
		want  bool
	}{
		{"at the beginning", series("A", "t", 600, 2), 2880 + 600, true},
		{"before the beginning", series("A", "t", 599, 2), 2880 + 600, false},
		{"before the end", series("A", "t", 659, 2), 2880 + 600, true},
		{"at the end", series("A", "t", 660, 2), 2880 + 600, false},
		{"on a later one of its days", series("A", "t", 600, 0, 1, 2, 9), 2880 + 600, true},
		{"between its days", series("A", "t", 600, 0, 1, 3, 9), 2880 + 600, false},
		{"on the day before", series("A", "t", 1440+600, 1), 2880 + 600, true},
		{"of another kind", series("D", "t", 600, 2), 2880 + 600, false},
		{"of another terminal", series("A", "u", 600, 2), 2880 + 600, false},
		{"of no terminal", series("A", "", 600, 2), 2880 + 600, false},
		{"no movements", tally.Series{}, 2880 + 600, false},
	} {
		if got := x.s.CountsIn(l, x.begin); got != x.want {
			t.Errorf("CountsIn %s: got %v", x.what, got)
		}
	}
	if !series("D", "u", 600, 2).CountsIn(hour(), 2880+600) {
		t.Errorf("CountsIn for all kinds and terminals: got false")
	}
}

// noise is a fixed sequence of numbers from 0 to n - 1 for inputs of many forms.
type noise uint32

func (x *noise) next(n int) int {
	*x = *x*1664525 + 1013904223
	return int(*x>>8) % n
}

// pick returns one of some values.
func pick[T any](x *noise, values ...T) T { return values[x.next(len(values))] }

func (x *noise) someLimits() []capacity.Limit {
	var limits []capacity.Limit
	for range x.next(4) {
		from := x.next(1440)
		limits = append(limits, capacity.Limit{
			Name: "x", Kind: pick(x, "A", "D", "T", "T"), Terminal: pick(x, "", "", "t"),
			Length: pick(x, 1, 30, 60, 200, 1440), Step: pick(x, 1, 20, 60, 720, 1440), From: pick(x, 0, from), To: pick(x, from, 1439),
			Period: api.Period{From: x.next(3), To: 3 + x.next(3), Days: pick(x, 127, 1+x.next(127))}, Most: x.next(4),
		})
	}
	return limits
}

func (x *noise) someSeries() tally.Series {
	var days []int
	for day := range 7 {
		if x.next(3) == 0 {
			days = append(days, day)
		}
	}
	return series(pick(x, "A", "D"), pick(x, "", "t", "u"), pick(x, 0, 10, 600, 610, 630, 1439, 1440, 2879, x.next(2880)), days...)
}

// Terms: counts and exceeded windows are those of package capacity.
func TestTallyModel(t *testing.T) {
	x := noise(1)
	found := 0
	for n := range 400 {
		limits := x.someLimits()
		got := tally.Of(limits)
		var put []tally.Series
		for range x.next(8) {
			s := x.someSeries()
			if i := x.next(len(put) + 1); i < len(put) && x.next(3) == 0 {
				got.Take(put[i])
				put = slices.Delete(put, i, i+1)
				continue
			}
			got.Put(s)
			put = append(put, s)
		}
		further := []tally.Series{x.someSeries(), x.someSeries(), x.someSeries()}[:x.next(4)]
		want := exceededWith(limits, put, further)
		found += len(want)
		isTally(t, fmt.Sprint("tally ", n, limits, put, further), got, want, further...)
		for _, w := range want {
			for _, s := range slices.Concat(put, further) {
				count, _ := capacity.Count(limits[w.Limit], movementsOf(s), w.Begin)
				if has := got.Has(w, s); has != (count > 0) {
					t.Errorf("Has %v of %v by %v: got %v", w, s, limits, has)
				}
			}
			count, _ := capacity.Count(limits[w.Limit], movementsOf(put...), w.Begin)
			if has := got.Has(w, put...); has != (count > 0) {
				t.Errorf("Has %v of %v by %v: got %v", w, put, limits, has)
			}
		}
	}
	if found < 1000 {
		t.Errorf("too few exceeded windows: %d", found)
	}
}

// Rules: arguments are neither modified nor retained.
func TestArgumentsStay(t *testing.T) {
	limits, s := []capacity.Limit{hour()}, []tally.Series{series("A", "", 610, 2, 3)}
	got := tally.Of(limits)
	got.Put(s...)
	limits[0].Most, s[0].Days[0], s[0].Minute = 9, 5, 5
	isTally(t, "after the arguments were changed", got, []capacity.Window{{Begin: 3480, Count: 2}}, series("D", "", 650, 2))
	if !slices.Equal(s[0].Days, []int{5, 3}) {
		t.Errorf("days: got %v", s[0].Days)
	}
}
