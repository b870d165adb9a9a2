package capacity_test

import (
	"fmt"
	"math"
	"slices"
	"testing"

	"turnround/api"
	"turnround/capacity"
)

// P3.1: the error of a movement.
func TestCheckMovement(t *testing.T) {
	for _, f := range goodFacts() {
		for _, moment := range []int{0, 1, 3300, 143999999} {
			is(t, fmt.Sprint("CheckMovements: ", f), capacity.CheckMovements([]api.Movement{f.movement(moment)}), api.OK)
		}
	}
	for _, x := range badMovements() {
		is(t, "CheckMovements: "+x.what, capacity.CheckMovements([]api.Movement{x.value}), x.e)
		is(t, "CheckMovements behind another one: "+x.what, capacity.CheckMovements([]api.Movement{arrival(5), x.value}), x.e)
	}
}

// badTraffic has lists of movements with an error of the list.
func badTraffic() []bad[[]api.Movement] {
	late := departure(3300)
	late.Kind = "T"
	early := departure(3298)
	early.Terminal = "1"
	return []bad[[]api.Movement]{
		{"30001 movements", slices.Repeat(arrivals(5), 30001), api.ErrMany},
		{"30001 empty movements", make([]api.Movement, 30001), api.ErrMany},
		{"a step back", arrivals(3245, 3299, 3298), api.ErrOrder},
		{"a step back to the first moment", arrivals(1, 0), api.ErrOrder},
		{"a step back behind the first one", arrivals(5, 6, 5), api.ErrOrder},
		{"a step back, and an error of its own", append(arrivals(3299), early), api.ErrName},
		{"a step back before an error", append(arrivals(3299, 3298), late), api.ErrOrder},
		{"an error before a step back", append(append(arrivals(3299), late), arrivals(3298)...), api.ErrKind},
		{"the first error decides", []api.Movement{arrival(5), late, early}, api.ErrKind},
	}
}

// P3.1: the error of lists of movements.
func TestCheckMovements(t *testing.T) {
	for _, l := range [][]api.Movement{nil, arrivals(5, 5, 5), three(), {departure(5), arrival(5)}, arrivals(0, 143999999), slices.Repeat(arrivals(5), 30000)} {
		is(t, fmt.Sprint("CheckMovements of ", len(l)), capacity.CheckMovements(l), api.OK)
	}
	for _, x := range badTraffic() {
		is(t, "CheckMovements: "+x.what, capacity.CheckMovements(x.value), x.e)
	}
}

// P3.1: the movements of a request are on the days of its period, with its facts.
func TestMovements(t *testing.T) {
	f := facts{name: "q1", kind: "D", terminal: "t1", seats: 180, size: 3, noise: 2}
	r := f.request(380)
	got, e := capacity.Movements(r)
	is(t, "Movements", e, api.OK)
	isList(t, "Movements", got, []api.Movement{f.movement(3260), f.movement(4700)})
	for _, x := range []struct {
		what    string
		r       api.Request
		moments []int
	}{
		{"Saturdays and Sundays", request(onDays(0, 9, 96), at(0)), []int{0, 1440, 10080, 11520}},
		{"no days", request(onDays(2, 3, 64)), nil},
		{"the last minute of all", request(onDays(99999, 99999, 127), at(1439)), []int{143999999}},
		{"the first minute of all", request(onDays(0, 0, 127), at(0)), []int{0}},
	} {
		got, e := capacity.Movements(x.r)
		is(t, "Movements: "+x.what, e, api.OK)
		isList(t, "Movements: "+x.what, got, arrivals(x.moments...))
	}
	got, _ = capacity.Movements(request(onDays(0, 400, 127), at(1)))
	is(t, "Movements on 401 days", len(got), 401)
	is(t, "the last one of 401", got[400], arrival(400*1440+1))
	for _, f := range goodFacts() {
		got, e := capacity.Movements(f.request(5))
		is(t, fmt.Sprint("Movements of ", f), e, api.OK)
		isList(t, fmt.Sprint("Movements of ", f), got, []api.Movement{f.movement(2885), f.movement(4325)})
	}
}

// P3.1: each error of a request; its carrier, its partner and its link are not examined.
func TestBadRequests(t *testing.T) {
	for _, x := range badRequests() {
		got, e := capacity.Movements(x.value)
		is(t, "Movements: "+x.what, e, x.e)
		isList(t, "Movements: "+x.what, got, nil)
	}
	got, e := capacity.Movements(request(func(r *api.Request) { r.Carrier, r.Partner, r.Link = "1", "\xff", "x" }))
	is(t, "Movements of no carrier", e, api.OK)
	isList(t, "Movements of no carrier", got, arrivals(3260, 4700))
}

// seated returns a movement that is known by its seats.
func seated(moment int, kind, name string, seats int) api.Movement {
	return api.Movement{Moment: moment, Kind: kind, Name: name, Seats: seats}
}

// P3.1: movements are merged by moments, kinds and names, and otherwise stay in their order.
func TestMerge(t *testing.T) {
	for _, x := range []struct {
		what       string
		a, b, want []api.Movement
	}{
		{"nothing", nil, nil, nil},
		{"nothing and some", nil, arrivals(3, 5), arrivals(3, 5)},
		{"some and nothing", arrivals(3, 5), nil, arrivals(3, 5)},
		{"by moments", arrivals(3, 5, 9), arrivals(1, 4, 5, 10), arrivals(1, 3, 4, 5, 5, 9, 10)},
		{"a moment before a kind", []api.Movement{seated(5, "D", "a", 0)}, []api.Movement{seated(6, "A", "a", 1)}, []api.Movement{seated(5, "D", "a", 0), seated(6, "A", "a", 1)}},
		{"by kinds", []api.Movement{seated(5, "D", "a", 0)}, []api.Movement{seated(5, "A", "b", 1)}, []api.Movement{seated(5, "A", "b", 1), seated(5, "D", "a", 0)}},
		{"by names", []api.Movement{seated(5, "A", "a", 0), seated(5, "A", "b", 1)}, []api.Movement{seated(5, "A", "B", 2), seated(5, "A", "a9", 3)},
			[]api.Movement{seated(5, "A", "B", 2), seated(5, "A", "a", 0), seated(5, "A", "a9", 3), seated(5, "A", "b", 1)}},
		{"by bytes of names", []api.Movement{seated(5, "A", "a_", 0)}, []api.Movement{seated(5, "A", "a9", 1), seated(5, "A", "aA", 2), seated(5, "A", "aa", 3)},
			[]api.Movement{seated(5, "A", "a9", 1), seated(5, "A", "aA", 2), seated(5, "A", "a_", 0), seated(5, "A", "aa", 3)}},
		{"equal ones", []api.Movement{seated(5, "A", "a", 9), seated(5, "A", "a", 8)}, []api.Movement{seated(5, "A", "a", 7), seated(5, "A", "a", 6)},
			[]api.Movement{seated(5, "A", "a", 9), seated(5, "A", "a", 8), seated(5, "A", "a", 7), seated(5, "A", "a", 6)}},
		{"within the first list", []api.Movement{seated(5, "D", "a", 0), seated(5, "A", "b", 1), seated(5, "A", "a", 2)}, nil,
			[]api.Movement{seated(5, "A", "a", 2), seated(5, "A", "b", 1), seated(5, "D", "a", 0)}},
		{"within the second list", nil, []api.Movement{seated(5, "D", "a", 0), seated(5, "D", "a", 1), seated(5, "A", "z", 2)},
			[]api.Movement{seated(5, "A", "z", 2), seated(5, "D", "a", 0), seated(5, "D", "a", 1)}},
		{"terminals, seats and sizes do not count", []api.Movement{{Moment: 5, Kind: "A", Terminal: "z", Seats: 9, Size: 9, Noise: 9, Name: "a"}}, arrivalsNamed("a", 5),
			[]api.Movement{{Moment: 5, Kind: "A", Terminal: "z", Seats: 9, Size: 9, Noise: 9, Name: "a"}, seated(5, "A", "a", 0)}},
	} {
		got, e := capacity.Merge(x.a, x.b)
		is(t, "Merge: "+x.what, e, api.OK)
		isList(t, "Merge: "+x.what, got, x.want)
	}
	many := slices.Repeat(arrivals(5), 15000)
	got, e := capacity.Merge(many, many)
	is(t, "Merge to 30000", e, api.OK)
	is(t, "Merge to 30000", len(got), 30000)
}

func arrivalsNamed(name string, moments ...int) []api.Movement {
	all := arrivals(moments...)
	for i := range all {
		all[i].Name = name
	}
	return all
}

// P3.1: each error of Merge: of the first list, of the second one, then of the size of the result.
func TestBadMerges(t *testing.T) {
	refused := func(what string, a, b []api.Movement, e api.Errno) {
		t.Helper()
		got, gotE := capacity.Merge(a, b)
		is(t, "Merge: "+what, gotE, e)
		isList(t, "Merge: "+what, got, nil)
	}
	many := slices.Repeat(arrivals(5), 30000)
	for _, x := range badTraffic() {
		refused(x.what, x.value, nil, x.e)
		refused(x.what, nil, x.value, x.e)
		refused(x.what+" beside many", many, x.value, x.e)
		refused(x.what+" beside another error", x.value, []api.Movement{{}}, x.e)
	}
	refused("30001 movements", many, arrivals(6), api.ErrMany)
	refused("30001 movements, the other way round", arrivals(6), many, api.ErrMany)
	got, e := capacity.Merge(many, nil)
	is(t, "Merge of 30000 and nothing", e, api.OK)
	is(t, "Merge of 30000 and nothing", len(got), 30000)
}

// P3.1: movements with a name are left out.
func TestDropped(t *testing.T) {
	a, b, c := seated(5, "A", "a", 1), seated(5, "D", "b", 2), seated(7, "A", "a", 3)
	for _, x := range []struct {
		l    []api.Movement
		name string
		want []api.Movement
	}{
		{nil, "a", nil},
		{[]api.Movement{a, b, c}, "a", []api.Movement{b}},
		{[]api.Movement{a, b, c}, "b", []api.Movement{a, c}},
		{[]api.Movement{a, b, c}, "c", []api.Movement{a, b, c}},
		{[]api.Movement{a, b, c}, "A", []api.Movement{a, b, c}},
		{[]api.Movement{b, a, c}, "b", []api.Movement{a, c}},
		{[]api.Movement{a, c}, "a", nil},
	} {
		got, e := capacity.Dropped(x.l, x.name)
		is(t, "Dropped "+x.name, e, api.OK)
		isList(t, "Dropped "+x.name, got, x.want)
	}
}

// P3.1: each error of Dropped: of the movements, then of the name.
func TestBadDrops(t *testing.T) {
	for _, x := range badTraffic() {
		for _, name := range []string{"x", "", "1"} {
			got, e := capacity.Dropped(x.value, name)
			is(t, "Dropped: "+x.what, e, x.e)
			isList(t, "Dropped: "+x.what, got, nil)
		}
	}
	for _, s := range append([]string{""}, noNames...) {
		for _, l := range [][]api.Movement{nil, three()} {
			got, e := capacity.Dropped(l, s)
			is(t, "Dropped: the name "+s, e, api.ErrName)
			isList(t, "Dropped: the name "+s, got, nil)
		}
	}
	_, e := capacity.Dropped([]api.Movement{arrival(math.MaxInt)}, "")
	is(t, "Dropped: a moment and a name", e, api.ErrRange)
}
