package capacity_test

import (
	"fmt"
	"math"
	"slices"
	"testing"

	"turnround/api"
	"turnround/capacity"
)

// late is the limit of the fifth example: its window lasts past midnight.
func late(changes ...func(*capacity.Limit)) capacity.Limit {
	l := day(append([]func(*capacity.Limit){named("late"), every(10, 1430, 1430), on(2, 2, 127)}, changes...)...)
	return l
}

// P3.2: windows begin at the multiples of the step.
func TestBegins(t *testing.T) {
	for _, x := range []struct {
		what string
		l    capacity.Limit
		day  int
		want []int
	}{
		{"the example", day(), 2, []int{3240, 3270, 3300}},
		{"the last day", day(), 3, []int{4680, 4710, 4740}},
		{"from no multiple", day(every(30, 361, 420)), 2, []int{3270, 3300}},
		{"to no multiple", day(every(30, 360, 419)), 2, []int{3240, 3270}},
		{"one between", day(every(30, 361, 419)), 2, []int{3270}},
		{"none between", day(every(30, 361, 389)), 2, nil},
		{"one at both ends", day(every(30, 390, 390)), 2, []int{3270}},
		{"none at both ends", day(every(30, 391, 391)), 2, nil},
		{"the minute 0", day(every(1000, 0, 999)), 2, []int{2880}},
		{"not the minute 0", day(every(1000, 1, 1439)), 2, []int{3880}},
		{"no multiple but 0", day(every(1440, 1, 1439)), 2, nil},
		{"the greatest step", day(every(1440, 0, 1439)), 2, []int{2880}},
		{"the last minute", day(every(1, 1438, 1439)), 2, []int{4318, 4319}},
		{"the first day", day(every(720, 0, 1439), on(0, 0, 127)), 0, []int{0, 720}},
		{"the last day of all", day(every(1439, 0, 1439), on(99999, 99999, 127)), 99999, []int{143998560, 143999999}},
		{"a Sunday", day(on(0, 14, 64)), 8, []int{11880, 11910, 11940}},
		{"a long window", day(lasting(1440)), 2, []int{3240, 3270, 3300}},
	} {
		got, e := capacity.Begins(x.l, x.day)
		is(t, "Begins: "+x.what, e, api.OK)
		isList(t, "Begins: "+x.what, got, x.want)
	}
	got, _ := capacity.Begins(day(every(1, 0, 1439)), 3)
	is(t, "Begins of each minute", len(got), 1440)
	is(t, "the last one of each minute", got[1439], 5759)
}

// outside has limits and days that are none of theirs.
var outside = []struct {
	what string
	l    capacity.Limit
	day  int
}{
	{"before", day(), 1},
	{"after", day(), 4},
	{"a Saturday", day(on(0, 14, 64)), 0},
	{"a Monday", day(on(0, 14, 64)), 2},
	{"no day at all", day(on(2, 3, 64)), 2},
	{"far away", day(), 99999},
	{"a Sunday after", day(on(0, 7, 64)), 8},
	{"without windows", day(every(30, 361, 389)), 4},
}

// P3.2: each error of Begins: of the limit, of the day, then of both together.
func TestBadBegins(t *testing.T) {
	refused := func(what string, l capacity.Limit, day int, e api.Errno) {
		t.Helper()
		got, gotE := capacity.Begins(l, day)
		is(t, "Begins: "+what, gotE, e)
		isList(t, "Begins: "+what, got, nil)
	}
	for _, x := range badLimits() {
		refused(x.what, x.value, 2, x.e)
		refused(x.what, x.value, 9, x.e)
		refused(x.what, x.value, -1, x.e)
	}
	for _, n := range noDays {
		refused(fmt.Sprint("the day ", n), day(), n, api.ErrRange)
		refused(fmt.Sprint("the day ", n), day(on(0, 0, 127)), n, api.ErrRange)
	}
	for _, x := range outside {
		refused(x.what, x.l, x.day, api.ErrOutside)
	}
}

// P3.2: the movements that count for a limit are counted in its windows.
func TestCount(t *testing.T) {
	mixed := []api.Movement{
		{Moment: 3240, Kind: "A", Name: "a"},
		{Moment: 3240, Kind: "D", Name: "b", Terminal: "t1"},
		{Moment: 3250, Kind: "A", Name: "a", Terminal: "t2"},
		{Moment: 3299, Kind: "D", Name: "c", Terminal: "t1"},
	}
	past := []api.Movement{departure(4310), arrival(4320), departure(4369), departure(4370)}
	for _, x := range []struct {
		what  string
		l     capacity.Limit
		m     []api.Movement
		begin int
		want  int
	}{
		{"the first window", day(), three(), 3240, 3},
		{"the second window", day(), three(), 3270, 2},
		{"the third window", day(), three(), 3300, 0},
		{"another day", day(), three(), 4680, 0},
		{"nothing", day(), nil, 3240, 0},
		{"the edges of a window", day(), arrivals(3239, 3240, 3299, 3300), 3240, 2},
		{"equal ones", day(), arrivals(3240, 3240, 3240), 3240, 3},
		{"30000 equal ones", day(), slices.Repeat(arrivals(3240), 30000), 3240, 30000},
		{"both kinds", day(), mixed, 3240, 4},
		{"arrivals", day(ofKind("A")), mixed, 3240, 2},
		{"departures", day(ofKind("D")), mixed, 3240, 2},
		{"a terminal", day(in("t1")), mixed, 3240, 2},
		{"another terminal", day(in("t2")), mixed, 3240, 1},
		{"a terminal without movements", day(in("t3")), mixed, 3240, 0},
		{"arrivals at a terminal", day(in("t1"), ofKind("A")), mixed, 3240, 0},
		{"departures at a terminal", day(in("t1"), ofKind("D")), mixed, 3240, 2},
		{"one minute", day(lasting(1)), mixed, 3240, 2},
		{"two minutes", day(lasting(2)), arrivals(3239, 3240, 3241, 3242), 3240, 2},
		{"past midnight", late(), past, 4310, 3},
		{"departures past midnight", late(ofKind("D")), past, 4310, 2},
		{"up to midnight", late(lasting(10)), arrivals(4309, 4310, 4319, 4320), 4310, 2},
		{"one minute past midnight", late(lasting(11)), arrivals(4309, 4319, 4320, 4321), 4310, 2},
		{"a whole day", day(lasting(1440), every(1, 0, 1439)), arrivals(2879, 2880, 4319, 4320), 2880, 2},
		{"a whole day from the last minute on", day(lasting(1440), every(1, 0, 1439)), arrivals(4318, 4319, 4320, 5758, 5759), 4319, 3},
		{"the end of the first day of all", day(every(1, 0, 0), on(0, 0, 127)), arrivals(0, 59, 60), 0, 2},
		{"the end of the last day of all", day(every(1, 1439, 1439), on(99999, 99999, 127)), arrivals(143999998, 143999999, 143999999), 143999999, 2},
	} {
		got, e := capacity.Count(x.l, x.m, x.begin)
		is(t, "Count: "+x.what, e, api.OK)
		is(t, "Count: "+x.what, got, x.want)
	}
}

// P3.2: each error of Count: of the limit, of the movements, of the moment, then of all together.
func TestBadCounts(t *testing.T) {
	refused := func(what string, l capacity.Limit, m []api.Movement, begin int, e api.Errno) {
		t.Helper()
		got, gotE := capacity.Count(l, m, begin)
		is(t, "Count: "+what, gotE, e)
		is(t, "Count: "+what, got, 0)
	}
	for _, x := range badLimits() {
		refused(x.what, x.value, nil, 3240, x.e)
		refused(x.what, x.value, arrivals(6, 5), -1, x.e)
	}
	for _, x := range badTraffic() {
		refused(x.what, day(), x.value, 3240, x.e)
		refused(x.what, day(), x.value, -1, x.e)
		refused(x.what, day(), x.value, 0, x.e)
	}
	for _, n := range noMoments {
		refused(fmt.Sprint("the moment ", n), day(), three(), n, api.ErrRange)
	}
	for _, n := range []int{3241, 3239, 3210, 3330, 0, 360, 1800, 6120, 143999999} {
		refused(fmt.Sprint("no window at ", n), day(), three(), n, api.ErrNone)
	}
	refused("no window on a Monday", day(on(0, 14, 64)), nil, 3240, api.ErrNone)
	refused("no windows", day(every(30, 361, 389)), nil, 3240, api.ErrNone)
}

// P3.2: the counts of the windows of a day.
func TestTable(t *testing.T) {
	for _, x := range []struct {
		what string
		l    capacity.Limit
		m    []api.Movement
		day  int
		want []int
	}{
		{"the example", day(), three(), 2, []int{3, 2, 0}},
		{"another day", day(), three(), 3, []int{0, 0, 0}},
		{"nothing", day(), nil, 2, []int{0, 0, 0}},
		{"no windows", day(every(30, 361, 389)), three(), 2, nil},
		{"departures", day(ofKind("D")), append(three(), departure(3300)), 2, []int{0, 1, 1}},
		{"past midnight", day(lasting(120), every(60, 1320, 1439)), arrivals(4199, 4200, 4260, 4319, 4320, 4379, 4380), 2, []int{3, 4}},
		{"gaps between windows", day(lasting(1), every(30, 360, 420)), arrivals(3240, 3241, 3269, 3271, 3300), 2, []int{1, 0, 1}},
	} {
		got, e := capacity.Table(x.l, x.m, x.day)
		is(t, "Table: "+x.what, e, api.OK)
		isList(t, "Table: "+x.what, got, x.want)
	}
}

// P3.2: each error of Table: of the limit, of the movements, of the day, then of all together.
func TestBadTables(t *testing.T) {
	refused := func(what string, l capacity.Limit, m []api.Movement, day int, e api.Errno) {
		t.Helper()
		got, gotE := capacity.Table(l, m, day)
		is(t, "Table: "+what, gotE, e)
		isList(t, "Table: "+what, got, nil)
	}
	for _, x := range badLimits() {
		refused(x.what, x.value, nil, 2, x.e)
		refused(x.what, x.value, arrivals(6, 5), -1, x.e)
	}
	for _, x := range badTraffic() {
		refused(x.what, day(), x.value, 2, x.e)
		refused(x.what, day(), x.value, 9, x.e)
		refused(x.what, day(), x.value, -1, x.e)
	}
	for _, n := range noDays {
		refused(fmt.Sprint("the day ", n), day(), three(), n, api.ErrRange)
	}
	for _, x := range outside {
		refused(x.what, x.l, three(), x.day, api.ErrOutside)
	}
}

// P3.2: the first one of the windows with the greatest count.
func TestPeak(t *testing.T) {
	for _, x := range []struct {
		what  string
		l     capacity.Limit
		m     []api.Movement
		begin int
		count int
	}{
		{"the example", day(), three(), 3240, 3},
		{"nothing", day(), nil, 3240, 0},
		{"nothing on some days", day(on(0, 14, 64)), nil, 1800, 0},
		{"the second window", day(), arrivals(3280, 3300), 3270, 2},
		{"the first one of several", day(), arrivals(3290), 3240, 1},
		{"the first one of several days", day(), arrivals(3290, 4750), 3240, 1},
		{"the second day", day(), arrivals(3290, 4750, 4750), 4710, 2},
		{"the last window", day(), arrivals(4730, 4790, 4791, 4792), 4740, 3},
		{"movements that do not count", day(ofKind("D")), append(three(), departure(4790)), 4740, 1},
		{"movements after all windows", day(), arrivals(3359, 4800, 4800), 3300, 1},
		{"whatever is exceeded", day(atMost(0)), arrivals(4750), 4710, 1},
	} {
		got, e := capacity.Peak(x.l, x.m)
		is(t, "Peak: "+x.what, e, api.OK)
		is(t, "Peak: "+x.what, got, capacity.Window{Begin: x.begin, Count: x.count})
	}
}

// P3.2: each error of Peak: of the limit, of the movements, then of both together.
func TestBadPeaks(t *testing.T) {
	refused := func(what string, l capacity.Limit, m []api.Movement, e api.Errno) {
		t.Helper()
		got, gotE := capacity.Peak(l, m)
		is(t, "Peak: "+what, gotE, e)
		is(t, "Peak: "+what, got, capacity.Window{})
	}
	for _, x := range badLimits() {
		refused(x.what, x.value, nil, x.e)
		refused(x.what, x.value, arrivals(6, 5), x.e)
	}
	for _, x := range badTraffic() {
		refused(x.what, day(), x.value, x.e)
		refused(x.what, day(every(30, 361, 389)), x.value, x.e)
	}
	refused("no windows on any day", day(every(30, 361, 389)), three(), api.ErrNone)
	refused("no days with windows", day(on(2, 3, 64)), three(), api.ErrNone)
}

// someLimits has limits whose windows are exceeded in a certain order by the movements of the example.
func someLimits() []capacity.Limit {
	return []capacity.Limit{day(atMost(3)), day(named("tight"), atMost(1)), day(named("departures"), ofKind("D"), atMost(0)), day(named("short"), lasting(30), atMost(0))}
}

// P3.2: exceeded windows in the order of limits and beginnings.
func TestExcess(t *testing.T) {
	for _, x := range []struct {
		what string
		l    []capacity.Limit
		m    []api.Movement
		want []capacity.Window
	}{
		{"the example", []capacity.Limit{day()}, three(), []capacity.Window{{Begin: 3240, Count: 3}}},
		{"several limits", someLimits(), three(), []capacity.Window{
			{Limit: 1, Begin: 3240, Count: 3}, {Limit: 1, Begin: 3270, Count: 2}, {Limit: 3, Begin: 3240, Count: 1}, {Limit: 3, Begin: 3270, Count: 2},
		}},
		{"several days", []capacity.Limit{day(atMost(0))}, arrivals(3245, 4799), []capacity.Window{{Begin: 3240, Count: 1}, {Begin: 4740, Count: 1}}},
		{"no limits", nil, three(), nil},
		{"no movements", someLimits(), nil, nil},
		{"full windows", []capacity.Limit{day(atMost(3))}, three(), nil},
		{"past midnight", []capacity.Limit{day(), late(atMost(1))}, arrivals(4319, 4369), []capacity.Window{{Limit: 1, Begin: 4310, Count: 2}}},
	} {
		got, e := capacity.Excess(x.l, x.m)
		is(t, "Excess: "+x.what, e, api.OK)
		isList(t, "Excess: "+x.what, got, x.want)
		first, e := capacity.First(x.l, x.m)
		if len(x.want) == 0 {
			is(t, "First: "+x.what, e, api.ErrNone)
			is(t, "First: "+x.what, first, capacity.Window{})
			continue
		}
		is(t, "First: "+x.what, e, api.OK)
		is(t, "First: "+x.what, first, x.want[0])
	}
}

// P3.2: at most 1000 exceeded windows are listed, and the first one of more is still found.
func TestManyExcesses(t *testing.T) {
	each := day(lasting(1440), every(1, 0, 1439), on(2, 9, 127), atMost(0))
	for _, x := range []struct {
		what string
		l    []capacity.Limit
		m    []api.Movement
		n    int
	}{
		{"1000", []capacity.Limit{each}, arrivals(2880 + 999), 1000},
		{"1001", []capacity.Limit{each}, arrivals(2880 + 1000), 1001},
		{"1440", []capacity.Limit{each}, arrivals(2880 + 5000), 1440},
		{"500 and 500", []capacity.Limit{each, day(named("other"), lasting(1440), every(1, 0, 1439), on(2, 9, 127), atMost(0))}, arrivals(2880 + 499), 1000},
		{"501 and 501", []capacity.Limit{each, day(named("other"), lasting(1440), every(1, 0, 1439), on(2, 9, 127), atMost(0))}, arrivals(2880 + 500), 1002},
	} {
		got, e := capacity.Excess(x.l, x.m)
		if x.n <= 1000 {
			is(t, "Excess of "+x.what, e, api.OK)
			is(t, "Excess of "+x.what, len(got), x.n)
		} else {
			is(t, "Excess of "+x.what, e, api.ErrMany)
			isList(t, "Excess of "+x.what, got, nil)
		}
		first, e := capacity.First(x.l, x.m)
		is(t, "First of "+x.what, e, api.OK)
		is(t, "First of "+x.what, first, capacity.Window{Begin: max(2880, x.m[0].Moment-1439), Count: 1})
	}
}

// P3.2: each error of First and Excess: of the limits, then of the movements.
func TestBadExcesses(t *testing.T) {
	refused := func(what string, l []capacity.Limit, m []api.Movement, e api.Errno) {
		t.Helper()
		w, gotE := capacity.First(l, m)
		is(t, "First: "+what, gotE, e)
		is(t, "First: "+what, w, capacity.Window{})
		all, gotE := capacity.Excess(l, m)
		is(t, "Excess: "+what, gotE, e)
		isList(t, "Excess: "+what, all, nil)
	}
	for _, x := range badLists() {
		refused(x.what, x.value, three(), x.e)
		refused(x.what, x.value, arrivals(-1), x.e)
	}
	for _, x := range badLimits() {
		refused(x.what, []capacity.Limit{x.value}, arrivals(6, 5), x.e)
	}
	for _, x := range badTraffic() {
		refused(x.what, nil, x.value, x.e)
		refused(x.what, []capacity.Limit{day(lasting(1440), every(1, 0, 1439), atMost(0))}, x.value, x.e)
	}
}

// P3.2: windows and their counts are those of the definition, for limits and movements of many forms.
func TestWindowsAsTheModelSays(t *testing.T) {
	x := noise(21)
	for n := range 300 {
		s := x.scene()
		windows := windowsOf(s.limits, s.movements)
		all, e := capacity.Excess(s.limits, s.movements)
		want := exceeded(s.limits, windows)
		if len(want) <= 1000 {
			is(t, "Excess", e, api.OK)
			isList(t, fmt.Sprint("Excess ", n), all, want)
		} else {
			is(t, "Excess", e, api.ErrMany)
		}
		first, e := capacity.First(s.limits, s.movements)
		if len(want) > 0 {
			is(t, fmt.Sprint("First ", n), first, want[0])
			is(t, "First", e, api.OK)
		} else {
			is(t, "First", e, api.ErrNone)
		}
		for _, l := range s.limits {
			isLimitAsTheModelSays(t, &x, l, s.movements)
		}
	}
}

func isLimitAsTheModelSays(t *testing.T, x *noise, l capacity.Limit, movements []api.Movement) {
	t.Helper()
	windows := windowsOf([]capacity.Limit{l}, movements)
	peak, e := capacity.Peak(l, movements)
	wantPeak, wantE := peakOf(windows)
	is(t, fmt.Sprint("Peak of ", l), peak, wantPeak)
	is(t, fmt.Sprint("Peak of ", l), e, wantE)
	for day := l.Period.From - 1; day <= l.Period.To+1; day++ {
		begins, e := capacity.Begins(l, day)
		want := beginsOf(l, day)
		isList(t, fmt.Sprint("Begins of ", l), begins, want)
		if !hasDay(l.Period, day) {
			is(t, fmt.Sprint("Begins of ", l), e, api.ErrOutside)
			continue
		}
		is(t, fmt.Sprint("Begins of ", l), e, api.OK)
		var counts []int
		for _, begin := range want {
			counts = append(counts, countOf(l, movements, begin))
		}
		table, e := capacity.Table(l, movements, day)
		is(t, fmt.Sprint("Table of ", l), e, api.OK)
		isList(t, fmt.Sprint("Table of ", l), table, counts)
		for range 5 {
			begin := 1440*day + pick(x, x.next(1440), l.From/l.Step*l.Step, x.next(1+1439/l.Step)*l.Step)
			n, e := capacity.Count(l, movements, begin)
			if slices.Contains(want, begin) {
				is(t, fmt.Sprint("Count of ", l, begin), e, api.OK)
				is(t, fmt.Sprint("Count of ", l, begin), n, countOf(l, movements, begin))
			} else {
				is(t, fmt.Sprint("Count of ", l, begin), e, api.ErrNone)
			}
		}
	}
	_, e = capacity.Count(l, movements, math.MaxInt)
	is(t, "Count at no moment", e, api.ErrRange)
}
