package capacity_test

import (
	"fmt"
	"slices"
	"testing"

	"turnround/api"
	"turnround/capacity"
)

// P3.1: the error of a limit.
func TestCheckLimit(t *testing.T) {
	for i, l := range goodLimits() {
		is(t, fmt.Sprint("CheckLimits of the good limit ", i), capacity.CheckLimits([]capacity.Limit{l}), api.OK)
	}
	for _, x := range badLimits() {
		is(t, "CheckLimits: "+x.what, capacity.CheckLimits([]capacity.Limit{x.value}), x.e)
		is(t, "CheckLimits behind another one: "+x.what, capacity.CheckLimits([]capacity.Limit{day(named("other")), x.value}), x.e)
	}
}

// badLists has lists of limits with an error of the list.
func badLists() []bad[[]capacity.Limit] {
	list := func(all ...capacity.Limit) []capacity.Limit { return all }
	other := day(named("other"))
	return []bad[[]capacity.Limit]{
		{"33 limits", limits(33), api.ErrMany},
		{"33 empty limits", make([]capacity.Limit, 33), api.ErrMany},
		{"twice", list(day(), day()), api.ErrTwice},
		{"twice among others", list(other, day(), day(atMost(9))), api.ErrTwice},
		{"twice at last", append(limits(31), day(named("l0"))), api.ErrTwice},
		{"twice, and an error of its own", list(day(), day(ofKind("B"))), api.ErrKind},
		{"twice before an error", list(day(), day(), day(ofKind("B"))), api.ErrTwice},
		{"an error before twice", list(day(), day(named("b"), ofKind("B")), day()), api.ErrKind},
		{"the first error decides", list(day(), day(named("b"), atMost(-1)), day(named("c"), ofKind(""))), api.ErrRange},
	}
}

// P3.1: the error of lists of limits.
func TestCheckLimits(t *testing.T) {
	is(t, "CheckLimits of nothing", capacity.CheckLimits(nil), api.OK)
	is(t, "CheckLimits of two names", capacity.CheckLimits([]capacity.Limit{day(), day(named("Day"))}), api.OK)
	is(t, "CheckLimits of 32", capacity.CheckLimits(limits(32)), api.OK)
	for _, x := range badLists() {
		is(t, "CheckLimits: "+x.what, capacity.CheckLimits(x.value), x.e)
	}
}

// P3.1: a limit is put in the place of the one with its name, or after all others.
func TestPut(t *testing.T) {
	a, b, c := day(named("a")), day(named("b")), day(named("c"))
	changed := day(named("b"), ofKind("D"), atMost(7))
	for _, x := range []struct {
		what string
		l    []capacity.Limit
		put  capacity.Limit
		want []capacity.Limit
	}{
		{"to nothing", nil, a, []capacity.Limit{a}},
		{"after one", []capacity.Limit{a}, b, []capacity.Limit{a, b}},
		{"after others", []capacity.Limit{c, b}, a, []capacity.Limit{c, b, a}},
		{"the first one", []capacity.Limit{b, a, c}, changed, []capacity.Limit{changed, a, c}},
		{"the second one", []capacity.Limit{a, b, c}, changed, []capacity.Limit{a, changed, c}},
		{"the last one", []capacity.Limit{a, c, b}, changed, []capacity.Limit{a, c, changed}},
		{"the same one", []capacity.Limit{a, b}, b, []capacity.Limit{a, b}},
		{"the 32nd one", limits(31), a, append(limits(31), a)},
		{"one of 32", limits(32), day(named("l31"), atMost(5)), append(limits(31), day(named("l31"), atMost(5)))},
	} {
		got, e := capacity.Put(x.l, x.put)
		is(t, "Put "+x.what, e, api.OK)
		isList(t, "Put "+x.what, got, x.want)
	}
}

// P3.1: each error of Put: of the limits, of the limit, then of the size of the result.
func TestBadPuts(t *testing.T) {
	refused := func(what string, l []capacity.Limit, put capacity.Limit, e api.Errno) {
		t.Helper()
		got, gotE := capacity.Put(l, put)
		is(t, "Put: "+what, gotE, e)
		isList(t, "Put: "+what, got, nil)
	}
	for _, x := range badLists() {
		refused(x.what, x.value, day(), x.e)
		refused(x.what, x.value, capacity.Limit{}, x.e)
	}
	for _, x := range badLimits() {
		refused(x.what, nil, x.value, x.e)
		refused(x.what, limits(32), x.value, x.e)
		refused(x.what, []capacity.Limit{day(ofKind("")), day()}, x.value, api.ErrKind)
	}
	refused("33 limits", limits(32), day(), api.ErrMany)
	refused("a bad limit in the place of a good one", []capacity.Limit{day()}, day(atMost(-1)), api.ErrRange)
	refused("a good limit in the place of a bad one", []capacity.Limit{day(atMost(-1))}, day(), api.ErrRange)
}

// P3.1: a limit is left out, and the others keep their order.
func TestWithout(t *testing.T) {
	a, b, c := day(named("a")), day(named("b"), atMost(1)), day(named("c"), atMost(2))
	for _, x := range []struct {
		l    []capacity.Limit
		name string
		want []capacity.Limit
	}{
		{[]capacity.Limit{a}, "a", nil},
		{[]capacity.Limit{a, b, c}, "a", []capacity.Limit{b, c}},
		{[]capacity.Limit{a, b, c}, "b", []capacity.Limit{a, c}},
		{[]capacity.Limit{c, a, b}, "b", []capacity.Limit{c, a}},
		{limits(32), "l31", limits(31)},
	} {
		got, e := capacity.Without(x.l, x.name)
		is(t, "Without "+x.name, e, api.OK)
		isList(t, "Without "+x.name, got, x.want)
	}
}

// P3.1: each error of Without: of the limits, of the name, then of both together.
func TestBadWithouts(t *testing.T) {
	refused := func(what string, l []capacity.Limit, name string, e api.Errno) {
		t.Helper()
		got, gotE := capacity.Without(l, name)
		is(t, "Without: "+what, gotE, e)
		isList(t, "Without: "+what, got, nil)
	}
	for _, x := range badLists() {
		refused(x.what, x.value, "day", x.e)
		refused(x.what, x.value, "other", x.e)
		if x.e != api.ErrTwice {
			refused(x.what, x.value, "", x.e)
		}
	}
	refused("twice, and no name", []capacity.Limit{day(), day()}, "", api.ErrTwice)
	for _, s := range append([]string{""}, noNames...) {
		refused("the name "+s, []capacity.Limit{day()}, s, api.ErrName)
		refused("the name "+s+" from nothing", nil, s, api.ErrName)
		refused("the name "+s+" from a bad limit", []capacity.Limit{day(ofKind(""))}, s, api.ErrKind)
	}
	refused("nothing", nil, "day", api.ErrUnknown)
	refused("another one", []capacity.Limit{day()}, "Day", api.ErrUnknown)
	refused("the beginning of a name", []capacity.Limit{day()}, "da", api.ErrUnknown)
}

// P3.1: limits and movements that are put, dropped or merged are the same values as before.
func TestListsAsTheModelSays(t *testing.T) {
	x := noise(11)
	for n := range 200 {
		s := x.scene()
		l := x.limit(fmt.Sprint("l", x.next(6)))
		at := slices.IndexFunc(s.limits, func(other capacity.Limit) bool { return other.Name == l.Name })
		wanted := append(slices.Clone(s.limits), l)
		if at >= 0 {
			wanted = slices.Clone(s.limits)
			wanted[at] = l
		}
		put, e := capacity.Put(s.limits, l)
		isList(t, fmt.Sprint("Put ", n), put, wanted)
		is(t, "Put", e, api.OK)
		left, e := capacity.Without(put, l.Name)
		is(t, "Without", e, api.OK)
		isList(t, fmt.Sprint("Without ", n), left, slices.DeleteFunc(slices.Clone(wanted), func(o capacity.Limit) bool { return o.Name == l.Name }))

		a, b := s.movements, x.movements(x.next(30))
		merged, e := capacity.Merge(a, b)
		is(t, "Merge", e, api.OK)
		isList(t, fmt.Sprint("Merge ", n), merged, mergedOf(a, b))
		dropped, e := capacity.Dropped(merged, "b")
		is(t, "Dropped", e, api.OK)
		isList(t, fmt.Sprint("Dropped ", n), dropped, slices.DeleteFunc(slices.Clone(merged), func(m api.Movement) bool { return m.Name == "b" }))
		movements, e := capacity.Movements(s.request)
		is(t, "Movements", e, api.OK)
		isList(t, fmt.Sprint("Movements ", n), movements, movementsOf(s.request))
		is(t, "CheckMovements of a merged list", capacity.CheckMovements(merged), api.OK)
	}
}
