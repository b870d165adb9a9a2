package ground_test

import (
	"fmt"
	"math"
	"slices"
	"testing"

	"turnround/api"
	"turnround/ground"
)

// hard has turnarounds of the chapter's examples without an assignment, and without a lack.
func hard() []ground.Turn {
	return list(turn("p", 0, 1, ofSize(4)), turn("q", 0, 3), turn("r", 1, 4), turn("s", 3, 5, ofSize(4)))
}

// lateZ has the turnarounds of the chapter's examples, with z from 90 on.
func lateZ() []ground.Turn {
	all := xyz()
	all[2].Start = 90
	return all
}

// P4.3: the first assignment.
func TestAssign(t *testing.T) {
	together := func(n int) []ground.Turn {
		all := turns(n)
		for i := range all {
			all[i].Start, all[i].End = 0, 100
		}
		return all
	}
	terminals := list(stand("a", in("t1")), stand("b", in("t2")), stand("c"))
	for _, x := range []struct {
		what   string
		stands []ground.Stand
		turns  []ground.Turn
		buffer int
		want   []int
	}{
		{"x and y", two(), xyz()[:2], 0, list(0, 1)},
		{"x leaves b for z", two(), xyz(), 0, list(1, 0, 1)},
		{"z from 90 on", two(), lateZ(), 0, list(0, 1, 1)},
		{"nothing", two(), nil, 0, nil},
		{"nothing at no stand", nil, nil, 0, nil},
		{"one behind the other", stands(2), turns(4), 0, list(0, 0, 0, 0)},
		{"one behind the other with a buffer", stands(2), turns(4), 1, list(0, 1, 0, 1)},
		{"with the greatest buffer", stands(8), turns(8), 240, list(0, 1, 2, 3, 4, 5, 6, 7)},
		{"empty ones together", stands(2), list(turn("a", 5, 5), turn("b", 5, 5), turn("c", 0, 9), turn("d", 5, 6)), 0, list(0, 0, 0, 1)},
		{"eight together", stands(9), together(8), 0, list(0, 1, 2, 3, 4, 5, 6, 7)},
		{"not in the order of time", stands(2), list(turn("c", 20, 30), turn("a", 0, 15), turn("b", 10, 20)), 0, list(0, 0, 1)},
		{"by size", list(stand("a", upTo(9)), stand("b", upTo(3)), stand("c", upTo(6))), list(turn("p", 0, 9, ofSize(2)), turn("q", 0, 9, ofSize(5)), turn("r", 0, 9, ofSize(9))), 0, list(1, 2, 0)},
		{"by terminal", terminals, list(turn("p", 0, 9), turn("q", 0, 9, at("t1")), turn("r", 0, 9, at("t3"))), 0, list(1, 0, 2)},
		{"the first stands of their terminals", terminals, list(turn("p", 0, 9, at("t2")), turn("q", 9, 18, at("t2")), turn("r", 0, 9, at("t1"))), 0, list(1, 1, 0)},
		{"the last one of 32 stands", append(stands(31), stand("big", upTo(9))), list(turn("a", 0, 9, ofSize(9)), turn("b", 0, 9)), 0, list(31, 0)},
		{"a stand that the first one leaves", list(stand("a"), stand("b", upTo(9))), list(turn("p", 0, 9), turn("q", 9, 20), turn("r", 5, 12, ofSize(9))), 0, list(0, 0, 1)},
		{"stands that are alike at first", list(stand("a"), stand("b"), stand("c")), list(turn("p", 0, 50), turn("q", 10, 60), turn("r", 20, 30), turn("s", 30, 40), turn("u", 50, 70)), 0, list(0, 1, 2, 2, 0)},
	} {
		got, e := ground.Assign(x.stands, x.turns, x.buffer)
		is(t, "Assign: "+x.what, e, api.OK)
		isList(t, "Assign: "+x.what, got, x.want)
		is(t, "CheckAssign: "+x.what, ground.CheckAssign(x.stands, x.turns, x.buffer, x.want), api.OK)
	}
}

// P4.3: there is no assignment.
func TestNoAssignment(t *testing.T) {
	for _, x := range []struct {
		what   string
		stands []ground.Stand
		turns  []ground.Turn
		buffer int
	}{
		{"x, y and z with a buffer", two(), xyz(), 1},
		{"no lack", two(), hard(), 0},
		{"no stands", nil, turns(1), 0},
		{"no stands for an empty one", nil, list(turn("a", 5, 5)), 0},
		{"too large", stands(32), list(turn("a", 0, 9, ofSize(6))), 0},
		{"too large at last", stands(32), append(turns(7), turn("a", 0, 9, ofSize(6))), 0},
		{"no terminal", list(stand("a", in("t1")), stand("b", in("t2"))), list(turn("a", 0, 9, at("t3"))), 0},
		{"too many", stands(2), list(turn("a", 0, 9), turn("b", 0, 9), turn("c", 8, 10)), 0},
		{"too many of a terminal", list(stand("a", in("t1")), stand("b", in("t2")), stand("c", in("t2"))), list(turn("a", 0, 9, at("t1")), turn("b", 0, 9, at("t1"))), 0},
	} {
		got, e := ground.Assign(x.stands, x.turns, x.buffer)
		is(t, "Assign: "+x.what, e, api.ErrInfeasible)
		isList(t, "Assign: "+x.what, got, nil)
	}
}

// badGrounds has stands, turnarounds and buffers with each error, and with later errors beside it.
func badGrounds() []bad[site] {
	var all []bad[site]
	for _, x := range badStandLists() {
		all = append(all, bad[site]{x.what, site{x.value, xyz(), 0}, x.e}, bad[site]{x.what + " and more", site{x.value, list(turn("", 9, 5)), -1}, x.e})
	}
	for _, x := range badTurnLists() {
		all = append(all, bad[site]{x.what, site{two(), x.value, 0}, x.e}, bad[site]{x.what + " and more", site{two(), x.value, -1}, x.e})
	}
	for _, n := range noBuffers {
		all = append(all, bad[site]{fmt.Sprint("buffer ", n), site{two(), xyz(), n}, api.ErrRange}, bad[site]{fmt.Sprint("buffer ", n, " of nothing"), site{nil, nil, n}, api.ErrRange})
	}
	return all
}

// site is what all functions of stands have as arguments.
type site struct {
	stands []ground.Stand
	turns  []ground.Turn
	buffer int
}

// P4.3: the errors of stands, turnarounds and buffers come first.
func TestBadGrounds(t *testing.T) {
	for _, x := range badGrounds() {
		y := x.value
		assignment, e := ground.Assign(y.stands, y.turns, y.buffer)
		is(t, "Assign: "+x.what, e, x.e)
		isList(t, "Assign: "+x.what, assignment, nil)
		for _, numbers := range [][]int{nil, list(1, 0, 1), list(-1, -1, -1), make([]int, len(y.turns))} {
			is(t, "CheckAssign: "+x.what, ground.CheckAssign(y.stands, y.turns, y.buffer, numbers), x.e)
			busy, e := ground.Busy(y.stands, y.turns, y.buffer, numbers)
			is(t, "Busy: "+x.what, e, x.e)
			isList(t, "Busy: "+x.what, busy, nil)
		}
		lack, e := ground.Clash(y.stands, y.turns, y.buffer)
		is(t, "Clash: "+x.what, e, x.e)
		is(t, "Clash: "+x.what, lack, ground.Lack{})
		for _, lack := range []ground.Lack{{Moment: 60, Size: 1}, {Moment: 60, Size: 9}, {Moment: -1, Size: -1}} {
			is(t, "CheckClash: "+x.what, ground.CheckClash(y.stands, y.turns, y.buffer, lack), x.e)
		}
	}
	nine := turns(9)
	_, e := ground.Assign(stands(9), nine, 0)
	is(t, "Assign of nine", e, api.ErrLimit)
	_, e = ground.Assign(nil, nine, 0)
	is(t, "Assign of nine to nothing", e, api.ErrLimit)
	_, e = ground.Assign(stands(9), nine, 241)
	is(t, "Assign of nine with a wrong buffer", e, api.ErrRange)
	_, e = ground.Assign(stands(9), append(nine, turn("t0", 0, 0)), 0)
	is(t, "Assign of ten with one twice", e, api.ErrTwice)
	_, e = ground.Assign(stands(9), turns(8), 0)
	is(t, "Assign of eight", e, api.OK)
}

// P4.3: the errors of an assignment, in their order.
func TestCheckAssign(t *testing.T) {
	marked := list(stand("s", upTo(2), in("t1")), stand("b", in("t2")))
	late := list(turn("x", 0, 60), turn("y", 60, 90), turn("z", 90, 100))
	for _, x := range []struct {
		what   string
		stands []ground.Stand
		turns  []ground.Turn
		buffer int
		a      []int
		e      api.Errno
	}{
		{"the first one", two(), xyz(), 0, list(1, 0, 1), api.OK},
		{"not the first one", two(), lateZ()[:2], 0, list(1, 0), api.OK},
		{"all at one stand", two(), late, 0, list(1, 1, 1), api.OK},
		{"all at one stand with a buffer", two(), late, 1, list(1, 1, 1), api.ErrClash},
		{"nothing", two(), nil, 0, nil, api.OK},
		{"nothing at no stand", nil, nil, 0, nil, api.OK},
		{"too short", two(), xyz(), 0, list(1, 0), api.ErrShape},
		{"too long", two(), xyz(), 0, list(1, 0, 1, 0), api.ErrShape},
		{"empty", two(), xyz(), 0, nil, api.ErrShape},
		{"a number for nothing", two(), nil, 0, list(0), api.ErrShape},
		{"too short and unknown", two(), xyz(), 0, list(-1, 9), api.ErrShape},
		{"the number behind the last one", two(), xyz(), 0, list(1, 2, 1), api.ErrUnknown},
		{"the number before the first one", two(), xyz(), 0, list(-1, 0, 1), api.ErrUnknown},
		{"the least number", two(), xyz(), 0, list(1, 0, math.MinInt), api.ErrUnknown},
		{"the greatest number", two(), xyz(), 0, list(1, 0, math.MaxInt), api.ErrUnknown},
		{"no stands", nil, xyz(), 0, list(0, 0, 0), api.ErrUnknown},
		{"too large", two(), xyz(), 0, list(1, 0, 0), api.ErrRule},
		{"another terminal", marked, list(turn("x", 0, 60, at("t2"))), 0, list(0), api.ErrRule},
		{"its terminal", marked, list(turn("x", 0, 60, at("t2"))), 0, list(1), api.OK},
		{"overlapping", two(), xyz(), 0, list(0, 0, 1), api.ErrClash},
		{"overlapping the last but one", two(), xyz(), 0, list(0, 1, 1), api.ErrClash},
		{"overlapping the first one", two(), list(turn("x", 0, 60), turn("y", 60, 70), turn("z", 5, 6)), 0, list(1, 1, 1), api.ErrClash},
		{"overlapping in a buffer", two(), xyz(), 1, list(1, 0, 1), api.ErrClash},
		{"too large and overlapping", two(), list(turn("x", 0, 60), turn("z", 0, 60, ofSize(3))), 0, list(0, 0), api.ErrRule},
		{"overlapping before unknown", two(), xyz(), 0, list(0, 0, 2), api.ErrClash},
		{"too large before unknown", two(), list(turn("x", 0, 60, ofSize(6)), turn("y", 0, 60)), 0, list(0, 2), api.ErrRule},
		{"unknown before too large", two(), list(turn("y", 0, 60), turn("x", 0, 60, ofSize(6))), 0, list(2, 0), api.ErrUnknown},
		{"overlapping before too large", two(), list(turn("y", 0, 60), turn("x", 0, 60), turn("z", 0, 60, ofSize(6))), 0, list(0, 0, 0), api.ErrClash},
		{"empty ones together", two(), list(turn("x", 5, 5), turn("y", 5, 5), turn("z", 0, 9)), 0, list(0, 0, 0), api.OK},
		{"256", list(stand("s")), turns(256), 0, make([]int, 256), api.OK},
		{"256 with a buffer", list(stand("s")), turns(256), 1, make([]int, 256), api.ErrClash},
	} {
		is(t, "CheckAssign: "+x.what, ground.CheckAssign(x.stands, x.turns, x.buffer, x.a), x.e)
		busy, e := ground.Busy(x.stands, x.turns, x.buffer, x.a)
		is(t, "Busy: "+x.what, e, x.e)
		if x.e != api.OK {
			isList(t, "Busy: "+x.what, busy, nil)
		}
	}
}

// P4.3: the minutes for which stands are occupied.
func TestBusy(t *testing.T) {
	for _, x := range []struct {
		what   string
		stands []ground.Stand
		turns  []ground.Turn
		buffer int
		a      []int
		want   []int
	}{
		{"x and y", two(), xyz()[:2], 0, list(0, 1), list(60, 60)},
		{"x, y and z", two(), xyz(), 0, list(1, 0, 1), list(60, 100)},
		{"with a buffer", two(), xyz()[:2], 5, list(0, 1), list(65, 65)},
		{"with two buffers", two(), list(turn("x", 0, 60), turn("y", 65, 70)), 5, list(1, 1), list(0, 75)},
		{"no turnarounds", stands(3), nil, 240, nil, list(0, 0, 0)},
		{"no stands", nil, nil, 0, nil, nil},
		{"empty ones", two(), list(turn("x", 5, 5), turn("y", 5, 5)), 0, list(0, 0), list(0, 0)},
		{"an empty one with a buffer", two(), list(turn("x", 5, 5)), 240, list(1), list(0, 240)},
		{"all time", two(), list(turn("x", 0, 143999999)), 240, list(0), list(144000239, 0)},
		{"256", stands(2), turns(256), 0, slices.Repeat(list(0, 1), 128), list(1280, 1280)},
	} {
		got, e := ground.Busy(x.stands, x.turns, x.buffer, x.a)
		is(t, "Busy: "+x.what, e, api.OK)
		isList(t, "Busy: "+x.what, got, x.want)
	}
}

// P4.3: the first assignment is that of the definition.
func TestAssignIsFirst(t *testing.T) {
	x := noise(51)
	found, none, later := 0, 0, 0
	for n := range 5000 {
		s := x.scene(x.next(5), x.next(7))
		what := fmt.Sprint("scene ", n, " ", s)
		want, isThere := firstAssignment(s)
		got, e := ground.Assign(s.stands, s.turns, s.buffer)
		if !isThere {
			none++
			is(t, "Assign in "+what, e, api.ErrInfeasible)
			isList(t, "Assign in "+what, got, nil)
			continue
		}
		found++
		is(t, "Assign in "+what, e, api.OK)
		isList(t, "Assign in "+what, got, want)
		if !slices.Equal(want, greedy(s)) {
			later++
		}
	}
	is(t, fmt.Sprint("some are found, some are not, some need a second try: ", found, none, later), found > 500 && none > 500 && later > 50, true)
}

// P4.3: the error of an assignment is that of the definition.
func TestCheckAssignByDefinition(t *testing.T) {
	x := noise(52)
	seen := map[api.Errno]int{}
	for n := range 5000 {
		s := x.scene(1+x.next(5), 1+x.next(5))
		var a []int
		for range s.turns {
			a = append(a, pick(&x, x.next(len(s.stands)), x.next(len(s.stands)), x.next(len(s.stands)), x.next(len(s.stands)+2)-1))
		}
		want := errorOf(s, a)
		seen[want]++
		is(t, fmt.Sprint("CheckAssign in scene ", n, " ", s, a), ground.CheckAssign(s.stands, s.turns, s.buffer, a), want)
		busy, e := ground.Busy(s.stands, s.turns, s.buffer, a)
		is(t, fmt.Sprint("Busy in scene ", n), e, want)
		if want == api.OK {
			isList(t, fmt.Sprint("Busy in scene ", n), busy, busyOf(s, a))
		}
	}
	for _, e := range []api.Errno{api.OK, api.ErrUnknown, api.ErrRule, api.ErrClash} {
		is(t, fmt.Sprint("there are some with the error ", e), seen[e] > 100, true)
	}
}

// P4.3: many stands that are alike, or not, do not keep the search from its end.
func TestLargeSearches(t *testing.T) {
	var all []ground.Stand
	for i := range 32 {
		all = append(all, stand(fmt.Sprint("s", i), upTo(1+i%8), in([]string{"", "t1", "t2", "t3"}[i/8])))
	}
	var wide []ground.Turn
	for i := range 7 {
		wide = append(wide, turn(fmt.Sprint("t", i), 10*(i%3), 10*(i%3)+15, ofSize(1+i%4), at([]string{"", "t1", "t2"}[i%3])))
	}
	for _, last := range []ground.Turn{turn("last", 0, 5, ofSize(9)), turn("last", 0, 5, at("t4"), ofSize(9))} {
		for _, s := range [][]ground.Stand{stands(32), all} {
			_, e := ground.Assign(s, append(slices.Clone(wide), last), 0)
			is(t, "Assign of seven that are easy, and of one that is not possible", e, api.ErrInfeasible)
			_, e = ground.Assign(s, append(turns(7), last), 240)
			is(t, "Assign of seven that overlap, and of one that is not possible", e, api.ErrInfeasible)
		}
	}
	got, e := ground.Assign(all, wide, 0)
	is(t, "Assign of seven", e, api.OK)
	is(t, "CheckAssign of seven", ground.CheckAssign(all, wide, 0, got), api.OK)
}
