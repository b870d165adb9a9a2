package plan_test

import (
	"fmt"
	"slices"
	"testing"

	"turnround/api"
	"turnround/plan"
)

// P7.4: the conflict of a route.
func TestConflict(t *testing.T) {
	for _, x := range agreements() {
		table := bothTables(x.r)
		at := slices.IndexFunc(setsOf(len(x.r.Flights)), func(set []int) bool { return isConflict(x.r, table, set) })
		is(t, "there is a conflict: "+x.what, at >= 0, x.clash != nil)
		set, e := plan.Conflict(x.r)
		if x.clash == nil {
			is(t, "Conflict: "+x.what, e, api.ErrNone)
			isList(t, "the conflict beside an error: "+x.what, set, nil)
			continue
		}
		is(t, "error: "+x.what, e, api.OK)
		isList(t, "the model: "+x.what, setsOf(len(x.r.Flights))[at], x.clash)
		isList(t, "Conflict: "+x.what, set, x.clash)
	}
}

// P7.4: least conflicts are accepted, and no other sets.
func TestCheckConflict(t *testing.T) {
	none := flight("h", only(720))
	apart := route(append(pair(only(610)).Flights, none)...)
	for _, x := range []struct {
		what string
		r    plan.Route
		set  []int
		e    api.Errno
	}{
		{"the example", pair(only(610)), list(0, 1), api.OK},
		{"one of them", pair(only(610)), list(0), api.ErrProof},
		{"the other one", pair(only(610)), list(1), api.ErrProof},
		{"no flight", pair(only(610)), nil, api.ErrProof},
		{"no flight of none", route(), nil, api.ErrProof},
		{"flights that fit", pair(), list(0, 1), api.ErrProof},
		{"a third one beside them", apart, list(0, 1, 2), api.ErrProof},
		{"two of three", apart, list(0, 1), api.OK},
		{"another two of three", apart, list(0, 2), api.ErrProof},
		{"another least one", route(flights(3, only(610))...), list(1, 2), api.OK},
		{"two that have no place", changed(pair(only(610)), nearby(hour(atMost(0)))), list(0, 1), api.ErrProof},
		{"one that has no place", changed(pair(only(610)), nearby(hour(atMost(0)))), list(1), api.OK},
		{"a least one that is not the smallest", route(append(flights(2, only(610)), lasts(110, flight("h", only(610))))...), list(0, 1), api.OK},
		{"one of 64", route(flights(64, only(610))...), list(62, 63), api.OK},
		{"nine of 64", route(flights(64, only(610))...), ascending(9), api.ErrLimit},
		{"eight of 64", route(flights(64, only(610))...), ascending(8), api.ErrProof},
		{"few of many candidates", route(flights(64, sized(96))...), list(5, 9), api.ErrProof},
		{"too many candidates", route(flights(64, sized(96))...), list(1, 5, 9), api.ErrLimit},
		{"too many candidates, and an unknown one", route(flights(64, sized(96))...), list(1, 5, 64), api.ErrUnknown},
	} {
		is(t, "CheckConflict: "+x.what, plan.CheckConflict(x.r, x.set), x.e)
	}
	for _, x := range badSets() {
		is(t, "CheckConflict: "+x.what, plan.CheckConflict(route(flights(3, only(610))...), x.value), x.e)
	}
}

// P7.4: the conflict, and all least ones, as the definitions say.
func TestConflictModel(t *testing.T) {
	x := noise(51)
	seen := [3]int{}
	for range 300 {
		r := x.someRoute()
		table := bothTables(r)
		var first []int
		for _, set := range setsOf(len(r.Flights)) {
			want := api.ErrProof
			if isConflict(r, table, set) {
				if first == nil {
					first = set
				}
				if isLeast(r, table, set) {
					want = api.OK
				}
			}
			is(t, fmt.Sprint("CheckConflict ", r, set), plan.CheckConflict(r, set), want)
		}
		got, e := plan.Conflict(r)
		isList(t, fmt.Sprint("Conflict ", r), got, first)
		is(t, fmt.Sprint("the error of Conflict ", r), e == api.ErrNone, first == nil)
		seen[min(len(first), 2)]++
	}
	is(t, fmt.Sprint("there are some of each: ", seen), min(seen[0], seen[1], seen[2]) > 20, true)
}
