package ground_test

import (
	"fmt"
	"math"
	"slices"
	"testing"

	"turnround/api"
	"turnround/calendar"
	"turnround/ground"
)

// late is the night of the chapter's examples.
var late = ground.Night{From: 1380, To: 360}

// quota is a quota of the summer of 2026, from day 9584 to day 9793, with changes.
func quota(changes ...func(*ground.Quota)) ground.Quota {
	return changed(ground.Quota{Night: late, Season: calendar.Season{Year: 2026, Kind: "S"}, Count: 5, Points: 10}, changes...)
}

func atNight(from, to int) func(*ground.Quota) {
	return func(q *ground.Quota) { q.Night = ground.Night{From: from, To: to} }
}

func during(year int, kind string) func(*ground.Quota) {
	return func(q *ground.Quota) { q.Season = calendar.Season{Year: year, Kind: kind} }
}

func of(count, points int) func(*ground.Quota) {
	return func(q *ground.Quota) { q.Count, q.Points = count, points }
}

// badNights has nights with each error, and with later errors beside it.
func badNights() []bad[ground.Night] {
	all := []bad[ground.Night]{
		{"no minute", ground.Night{}, api.ErrOrder},
		{"no minute at noon", ground.Night{From: 720, To: 720}, api.ErrOrder},
		{"no minute at the end", ground.Night{From: 1439, To: 1439}, api.ErrOrder},
	}
	for _, n := range noMinutes {
		all = append(all,
			bad[ground.Night]{fmt.Sprint("from ", n), ground.Night{From: n, To: 360}, api.ErrRange},
			bad[ground.Night]{fmt.Sprint("to ", n), ground.Night{From: 1380, To: n}, api.ErrRange},
			bad[ground.Night]{fmt.Sprint("from and to ", n), ground.Night{From: n, To: n}, api.ErrRange},
		)
	}
	return all
}

// badQuotas has quotas with each error, and with later errors beside it.
func badQuotas() []bad[ground.Quota] {
	var all []bad[ground.Quota]
	add := func(what string, e api.Errno, changes ...func(*ground.Quota)) {
		all = append(all, bad[ground.Quota]{what, quota(changes...), e})
	}
	for _, x := range badNights() {
		add(x.what, x.e, atNight(x.value.From, x.value.To))
		add(x.what+" and more", x.e, atNight(x.value.From, x.value.To), during(2026, "X"), of(-1, -1))
	}
	for _, n := range []int{math.MinInt, 0, 1999, 2273, math.MaxInt} {
		add(fmt.Sprint("year ", n), api.ErrRange, during(n, "S"))
		add(fmt.Sprint("year ", n, " and more"), api.ErrRange, during(n, "X"), of(-1, -1))
	}
	for _, s := range []string{"", "s", "SW", "T", "\x00"} {
		add("kind "+s, api.ErrKind, during(2026, s))
		add("kind "+s+" and more", api.ErrKind, during(2026, s), of(-1, -1))
	}
	for _, n := range []int{math.MinInt, -1, 100001, math.MaxInt} {
		add(fmt.Sprint("count ", n), api.ErrRange, of(n, 0))
		add(fmt.Sprint("points ", n), api.ErrRange, of(0, n))
		add(fmt.Sprint("count and points ", n), api.ErrRange, of(n, n))
	}
	return all
}

// P4.1: the errors of a quota, in their order.
func TestCheckQuota(t *testing.T) {
	for _, q := range []ground.Quota{
		quota(), quota(atNight(0, 1)), quota(atNight(1, 0)), quota(atNight(0, 1439)), quota(atNight(1439, 0)), quota(atNight(1438, 1439)),
		quota(during(2000, "S")), quota(during(2272, "W")), quota(during(2026, "W")),
		quota(of(0, 0)), quota(of(100000, 0)), quota(of(0, 100000)), quota(of(100000, 100000)),
	} {
		is(t, fmt.Sprint("CheckQuota of ", q), ground.CheckQuota(q), api.OK)
	}
	for _, x := range badQuotas() {
		is(t, "CheckQuota: "+x.what, ground.CheckQuota(x.value), x.e)
	}
	is(t, "CheckQuota of nothing", ground.CheckQuota(ground.Quota{}), api.ErrOrder)
}

// P4.5: the night in which a moment is.
func TestNightOf(t *testing.T) {
	morning := ground.Night{From: 0, To: 300}
	for _, x := range []struct {
		what   string
		n      ground.Night
		moment int
		day    int
		e      api.Errno
	}{
		{"its first minute", late, 1380, 0, api.OK},
		{"before its first minute", late, 1379, 0, api.ErrNone},
		{"the last minute of the day", late, 1439, 0, api.OK},
		{"after midnight", late, 1440, 0, api.OK},
		{"its last minute", late, 1440 + 359, 0, api.OK},
		{"behind its last minute", late, 1440 + 360, 0, api.ErrNone},
		{"the next one", late, 2880 - 1, 1, api.OK},
		{"the night before the first day", late, 100, 0, api.ErrNone},
		{"the first moment", late, 0, 0, api.ErrNone},
		{"the first moment of a morning", morning, 0, 0, api.OK},
		{"the last minute of a morning", morning, 1440 + 299, 1, api.OK},
		{"behind a morning", morning, 1440 + 300, 0, api.ErrNone},
		{"before an evening", ground.Night{From: 1200, To: 1439}, 1440*7 + 1199, 0, api.ErrNone},
		{"an evening", ground.Night{From: 1200, To: 1439}, 1440*7 + 1200, 7, api.OK},
		{"behind an evening", ground.Night{From: 1200, To: 1439}, 1440*7 + 1439, 0, api.ErrNone},
		{"until midnight", ground.Night{From: 1380, To: 0}, 1439, 0, api.OK},
		{"not after midnight", ground.Night{From: 1380, To: 0}, 1440, 0, api.ErrNone},
		{"all but a minute", ground.Night{From: 1, To: 0}, 1440, 0, api.ErrNone},
		{"nearly a day", ground.Night{From: 721, To: 720}, 1440*5 + 719, 4, api.OK},
		{"nearly a day later", ground.Night{From: 721, To: 720}, 1440*5 + 721, 5, api.OK},
		{"the minute between", ground.Night{From: 721, To: 720}, 1440*5 + 720, 0, api.ErrNone},
		{"the last moment", late, 143999999, 99999, api.OK},
		{"the last morning", late, 1440 * 99999, 99998, api.OK},
	} {
		got, e := ground.NightOf(x.n, x.moment)
		is(t, "NightOf: "+x.what, e, x.e)
		is(t, "NightOf: "+x.what, got, x.day)
	}
	refused := func(what string, n ground.Night, moment int, e api.Errno) {
		t.Helper()
		got, gotE := ground.NightOf(n, moment)
		is(t, "NightOf: "+what, gotE, e)
		is(t, "NightOf: "+what, got, 0)
	}
	for _, x := range badNights() {
		refused(x.what, x.value, 1400, x.e)
		refused(x.what+" and more", x.value, -1, x.e)
	}
	for _, n := range noMoments {
		refused(fmt.Sprint("moment ", n), late, n, api.ErrRange)
		refused(fmt.Sprint("moment ", n, " in the morning"), morning, n, api.ErrRange)
	}
}

const firstDay, lastDay = 9584, 9793

// flights has movements around the summer of 2026.
func flights() []api.Movement {
	return list(
		movement(1440*lastDay+1400, "A", withNoise(3), called("m")),
		movement(1440*firstDay+5, "D", withNoise(9), called("early")),
		movement(1440*(firstDay+1)+5, "D", withNoise(4), called("n")),
		movement(1440*(lastDay+1)+10, "A", withNoise(5), called("n")),
		movement(1440*(lastDay+1)+1400, "A", withNoise(50), called("n")),
		movement(1440*9600+720, "A", withNoise(9), called("noon")),
		movement(1440*firstDay+1380, "D", called("N")),
	)
}

// P4.5: what movements use of a quota, in all and by names.
func TestUsedLeftAndTable(t *testing.T) {
	row := func(name string, count, points int) ground.Row {
		return ground.Row{Name: name, Sum: ground.Sum{Count: count, Points: points}}
	}
	many := slices.Repeat(list(movement(1440*9600+5, "A", withNoise(99))), 256)
	for _, x := range []struct {
		what string
		q    ground.Quota
		m    []api.Movement
		used ground.Sum
		left ground.Sum
		rows []ground.Row
	}{
		{"past midnight", quota(), flights(), ground.Sum{Count: 4, Points: 12}, ground.Sum{Count: 1, Points: -2}, list(row("N", 1, 0), row("m", 1, 3), row("n", 2, 9))},
		{"of mornings", quota(atNight(0, 360)), flights(), ground.Sum{Count: 2, Points: 13}, ground.Sum{Count: 3, Points: -3}, list(row("early", 1, 9), row("n", 1, 4))},
		{"of evenings", quota(atNight(1380, 1439)), flights(), ground.Sum{Count: 2, Points: 3}, ground.Sum{Count: 3, Points: 7}, list(row("N", 1, 0), row("m", 1, 3))},
		{"the season before", quota(during(2025, "W")), flights(), ground.Sum{Count: 1, Points: 9}, ground.Sum{Count: 4, Points: 1}, list(row("early", 1, 9))},
		{"the season behind", quota(during(2026, "W")), flights(), ground.Sum{Count: 1, Points: 50}, ground.Sum{Count: 4, Points: -40}, list(row("n", 1, 50))},
		{"another year", quota(during(2030, "S")), flights(), ground.Sum{}, ground.Sum{Count: 5, Points: 10}, nil},
		{"no movements", quota(of(0, 100000)), nil, ground.Sum{}, ground.Sum{Count: 0, Points: 100000}, nil},
		{"all", quota(of(4, 12)), flights(), ground.Sum{Count: 4, Points: 12}, ground.Sum{}, list(row("N", 1, 0), row("m", 1, 3), row("n", 2, 9))},
		{"no quota", quota(of(0, 0)), flights(), ground.Sum{Count: 4, Points: 12}, ground.Sum{Count: -4, Points: -12}, list(row("N", 1, 0), row("m", 1, 3), row("n", 2, 9))},
		{"256 movements", quota(), many, ground.Sum{Count: 256, Points: 25344}, ground.Sum{Count: -251, Points: -25334}, list(row("x", 256, 25344))},
		{"the first season", quota(during(2000, "S")), list(movement(1440*84+1400, "A"), movement(1440*85+300, "A"), movement(1440*85+1400, "A", withNoise(1))), ground.Sum{Count: 1, Points: 1}, ground.Sum{Count: 4, Points: 9}, list(row("x", 1, 1))},
	} {
		used, e := ground.Used(x.q, x.m)
		is(t, "Used: "+x.what, e, api.OK)
		is(t, "Used: "+x.what, used, x.used)
		left, e := ground.Left(x.q, x.m)
		is(t, "Left: "+x.what, e, api.OK)
		is(t, "Left: "+x.what, left, x.left)
		rows, e := ground.Table(x.q, x.m)
		is(t, "Table: "+x.what, e, api.OK)
		isList(t, "Table: "+x.what, rows, x.rows)
	}
}

// P4.5: names are in the order of their bytes.
func TestTableOrder(t *testing.T) {
	var all []api.Movement
	for _, name := range []string{"b", "a_", "aa", "Z", "a", "a9", "aB", "b", "B", "a0b", "z"} {
		all = append(all, movement(1440*9600+5, "A", withNoise(1), called(name)))
	}
	rows := ok[[]ground.Row](t)(ground.Table(quota(), all))
	var got []string
	for _, row := range rows {
		got = append(got, row.Name)
	}
	isList(t, "names", got, list("B", "Z", "a", "a0b", "a9", "aB", "a_", "aa", "b", "z"))
}

// P4.5: the errors of Used, Left and Table, in their order.
func TestBadUses(t *testing.T) {
	refused := func(what string, q ground.Quota, m []api.Movement, e api.Errno) {
		t.Helper()
		used, gotE := ground.Used(q, m)
		is(t, "Used: "+what, gotE, e)
		is(t, "Used: "+what, used, ground.Sum{})
		left, gotE := ground.Left(q, m)
		is(t, "Left: "+what, gotE, e)
		is(t, "Left: "+what, left, ground.Sum{})
		rows, gotE := ground.Table(q, m)
		is(t, "Table: "+what, gotE, e)
		isList(t, "Table: "+what, rows, nil)
	}
	for _, x := range badQuotas() {
		refused(x.what, x.value, flights(), x.e)
		refused(x.what+" and more", x.value, make([]api.Movement, 257), x.e)
	}
	for _, x := range badMovementLists() {
		refused(x.what, quota(), x.value, x.e)
	}
}

// P4.5: nights and what movements use are those of the definition.
func TestNightsByDefinition(t *testing.T) {
	x := noise(55)
	some := 0
	for n := range 1000 {
		q := quota(atNight(x.next(1440), x.next(1439)), of(x.next(300), x.next(3000)))
		if q.Night.From == q.Night.To {
			q.Night.To++
		}
		var movements []api.Movement
		var used ground.Sum
		sums := map[string]ground.Sum{}
		for range x.next(40) {
			m := x.movement()
			m.Moment = 1440*pick(&x, firstDay-1+x.next(3), lastDay-1+x.next(4), firstDay+x.next(210)) + x.next(1440)
			movements = append(movements, m)
			for day := firstDay; day <= lastDay; day++ {
				if covers(q.Night, day, m.Moment) {
					used = ground.Sum{Count: used.Count + 1, Points: used.Points + m.Noise}
					sums[m.Name] = ground.Sum{Count: sums[m.Name].Count + 1, Points: sums[m.Name].Points + m.Noise}
				}
			}
		}
		some += used.Count
		what := fmt.Sprint("case ", n, " ", q)
		is(t, "Used in "+what, ok[ground.Sum](t)(ground.Used(q, movements)), used)
		is(t, "Left in "+what, ok[ground.Sum](t)(ground.Left(q, movements)), ground.Sum{Count: q.Count - used.Count, Points: q.Points - used.Points})
		var rows []ground.Row
		for _, name := range []string{"B", "a", "b", "c"} {
			if sum, has := sums[name]; has {
				rows = append(rows, ground.Row{Name: name, Sum: sum})
			}
		}
		isList(t, "Table in "+what, ok[[]ground.Row](t)(ground.Table(q, movements)), rows)
	}
	is(t, "some count", some > 2000, true)
}
