package ground_test

import (
	"fmt"
	"testing"

	"turnround/api"
	"turnround/ground"
)

// P4.3: the first lack, with the greatest size.
func TestClash(t *testing.T) {
	for _, x := range []struct {
		what   string
		stands []ground.Stand
		turns  []ground.Turn
		buffer int
		want   ground.Lack
	}{
		{"x, y and z with a buffer", two(), xyz(), 1, ground.Lack{Moment: 60, Size: 1}},
		{"one small stand", list(stand("s", upTo(1))), xyz(), 0, ground.Lack{Moment: 30, Size: 2}},
		{"no stands", nil, xyz(), 0, ground.Lack{Moment: 0, Size: 1}},
		{"no stands for several sizes", nil, list(turn("a", 7, 9, ofSize(3)), turn("b", 7, 8, ofSize(6)), turn("c", 8, 9, ofSize(9))), 0, ground.Lack{Moment: 7, Size: 6}},
		{"the greatest size of a moment", two(), list(turn("a", 7, 9, ofSize(3)), turn("b", 7, 9, ofSize(9)), turn("c", 7, 9, ofSize(4))), 0, ground.Lack{Moment: 7, Size: 9}},
		{"a smaller size first", two(), list(turn("a", 3, 9), turn("b", 4, 9), turn("c", 5, 9), turn("d", 6, 9, ofSize(9))), 0, ground.Lack{Moment: 5, Size: 1}},
		{"not in the order of time", two(), list(turn("d", 6, 9, ofSize(9)), turn("a", 3, 9, ofSize(3)), turn("b", 4, 9, ofSize(4))), 0, ground.Lack{Moment: 4, Size: 3}},
		{"with the greatest buffer", list(stand("s")), list(turn("a", 0, 10), turn("b", 249, 300)), 240, ground.Lack{Moment: 249, Size: 1}},
		{"empty ones with a buffer", list(stand("s")), list(turn("a", 5, 5), turn("b", 5, 5)), 1, ground.Lack{Moment: 5, Size: 1}},
		{"the size 9", stands(32), list(turn("a", 5, 6, ofSize(9))), 0, ground.Lack{Moment: 5, Size: 9}},
		{"terminals have no effect", list(stand("s", in("t1"))), list(turn("a", 5, 6, at("t2")), turn("b", 5, 6, at("t3"))), 0, ground.Lack{Moment: 5, Size: 1}},
		{"the last moment", nil, list(turn("a", 143999999, 143999999)), 1, ground.Lack{Moment: 143999999, Size: 1}},
		{"the first moment", nil, list(turn("a", 0, 1, ofSize(2))), 0, ground.Lack{Moment: 0, Size: 2}},
		{"256", stands(2), turns(256), 11, ground.Lack{Moment: 20, Size: 1}},
	} {
		got, e := ground.Clash(x.stands, x.turns, x.buffer)
		is(t, "Clash: "+x.what, e, api.OK)
		is(t, "Clash: "+x.what, got, x.want)
		is(t, "CheckClash: "+x.what, ground.CheckClash(x.stands, x.turns, x.buffer, x.want), api.OK)
	}
	for _, x := range []struct {
		what   string
		stands []ground.Stand
		turns  []ground.Turn
		buffer int
	}{
		{"x, y and z", two(), xyz(), 0},
		{"no assignment", two(), hard(), 0},
		{"nothing", two(), nil, 0},
		{"nothing at no stand", nil, nil, 0},
		{"empty ones at no stand", nil, list(turn("a", 5, 5), turn("b", 9, 9)), 0},
		{"a terminal without a stand", list(stand("s", in("t1"))), list(turn("a", 5, 6, at("t2"))), 0},
		{"256", stands(2), turns(256), 10},
		{"behind the greatest buffer", list(stand("s")), list(turn("a", 0, 10), turn("b", 250, 300)), 240},
	} {
		got, e := ground.Clash(x.stands, x.turns, x.buffer)
		is(t, "Clash: "+x.what, e, api.ErrNone)
		is(t, "Clash: "+x.what, got, ground.Lack{})
	}
}

// P4.3: what is a lack, and the errors of what is none.
func TestCheckClash(t *testing.T) {
	small := list(stand("s", upTo(1)))
	for _, x := range []struct {
		what   string
		stands []ground.Stand
		buffer int
		x      ground.Lack
		e      api.Errno
	}{
		{"the first one", two(), 1, ground.Lack{Moment: 60, Size: 1}, api.OK},
		{"another size", two(), 1, ground.Lack{Moment: 60, Size: 2}, api.ErrProof},
		{"a moment before", two(), 1, ground.Lack{Moment: 59, Size: 1}, api.ErrProof},
		{"a moment later", two(), 1, ground.Lack{Moment: 61, Size: 1}, api.ErrProof},
		{"a moment later with a longer buffer", two(), 2, ground.Lack{Moment: 61, Size: 1}, api.OK},
		{"no lack", two(), 0, ground.Lack{Moment: 60, Size: 1}, api.ErrProof},
		{"not the first one", small, 0, ground.Lack{Moment: 89, Size: 2}, api.OK},
		{"not the greatest size", small, 0, ground.Lack{Moment: 30, Size: 1}, api.OK},
		{"a greater size", small, 0, ground.Lack{Moment: 30, Size: 3}, api.ErrProof},
		{"the greatest size of z", small, 0, ground.Lack{Moment: 60, Size: 4}, api.OK},
		{"as many as stands", small, 0, ground.Lack{Moment: 99, Size: 1}, api.ErrProof},
		{"a time at which nothing is there", nil, 0, ground.Lack{Moment: 100, Size: 1}, api.ErrProof},
		{"the last moment", nil, 0, ground.Lack{Moment: 143999999, Size: 1}, api.ErrProof},
		{"the size 9", nil, 0, ground.Lack{Moment: 60, Size: 9}, api.ErrProof},
	} {
		is(t, "CheckClash: "+x.what, ground.CheckClash(x.stands, xyz(), x.buffer, x.x), x.e)
	}
	for _, n := range noMoments {
		is(t, fmt.Sprint("CheckClash at ", n), ground.CheckClash(nil, xyz(), 0, ground.Lack{Moment: n, Size: 1}), api.ErrRange)
	}
	for _, n := range noSizes {
		is(t, fmt.Sprint("CheckClash of the size ", n), ground.CheckClash(nil, xyz(), 0, ground.Lack{Moment: 60, Size: n}), api.ErrRange)
	}
	long := list(turn("a", 143999999, 143999999))
	is(t, "CheckClash at a moment that is none, in a buffer", ground.CheckClash(nil, long, 240, ground.Lack{Moment: 144000000, Size: 1}), api.ErrRange)
	is(t, "CheckClash at the last moment, in a buffer", ground.CheckClash(nil, long, 240, ground.Lack{Moment: 143999999, Size: 1}), api.OK)
}

// P4.3: how many stands of each size are needed.
func TestLeast(t *testing.T) {
	for _, x := range []struct {
		what   string
		turns  []ground.Turn
		buffer int
		want   [api.MaxSize]int
	}{
		{"x, y and z", xyz(), 0, [9]int{2, 2, 1, 1}},
		{"x, y and z with a buffer", xyz(), 1, [9]int{3, 2, 1, 1}},
		{"nothing", nil, 0, [9]int{}},
		{"empty ones", list(turn("a", 5, 5), turn("b", 5, 5)), 0, [9]int{}},
		{"empty ones with a buffer", list(turn("a", 5, 5), turn("b", 5, 5)), 1, [9]int{2}},
		{"the size 9", list(turn("a", 5, 6, ofSize(9))), 0, [9]int{1, 1, 1, 1, 1, 1, 1, 1, 1}},
		{"sizes at several moments", list(turn("a", 50, 60, ofSize(9)), turn("b", 0, 10), turn("c", 0, 10), turn("d", 9, 20, ofSize(2))), 0, [9]int{3, 1, 1, 1, 1, 1, 1, 1, 1}},
		{"one behind the other", turns(256), 0, [9]int{1}},
		{"the greatest buffer", turns(256), 240, [9]int{25}},
		{"the last moment", list(turn("a", 143999999, 143999999), turn("b", 0, 143999999, ofSize(2))), 240, [9]int{2, 1}},
		{"terminals have no effect", list(turn("a", 5, 6, at("t1")), turn("b", 5, 6, at("t2"))), 0, [9]int{2}},
	} {
		got, e := ground.Least(x.turns, x.buffer)
		is(t, "Least: "+x.what, e, api.OK)
		is(t, "Least: "+x.what, got, x.want)
	}
	for _, x := range badTurnLists() {
		for _, buffer := range []int{0, -1} {
			got, e := ground.Least(x.value, buffer)
			is(t, "Least: "+x.what, e, x.e)
			is(t, "Least: "+x.what, got, [9]int{})
		}
	}
	for _, n := range noBuffers {
		got, e := ground.Least(xyz(), n)
		is(t, fmt.Sprint("Least with the buffer ", n), e, api.ErrRange)
		is(t, fmt.Sprint("Least with the buffer ", n), got, [9]int{})
	}
}

// P4.3: lacks and least numbers are those of the definition.
func TestLacksByDefinition(t *testing.T) {
	x := noise(53)
	found, none := 0, 0
	for n := range 1500 {
		s := x.scene(x.next(6), x.next(9))
		what := fmt.Sprint("scene ", n, " ", s)
		all := lacksOf(s)
		got, e := ground.Clash(s.stands, s.turns, s.buffer)
		if len(all) == 0 {
			none++
			is(t, "Clash in "+what, e, api.ErrNone)
			is(t, "Clash in "+what, got, ground.Lack{})
		} else {
			found++
			is(t, "Clash in "+what, e, api.OK)
			is(t, "Clash in "+what, got, all[0])
		}
		for moment := range sceneEnd {
			size := 1 + x.next(9)
			want := api.ErrProof
			if isLack(s, moment, size) {
				want = api.OK
			}
			is(t, fmt.Sprint("CheckClash at ", moment, " of ", size, " in ", what), ground.CheckClash(s.stands, s.turns, s.buffer, ground.Lack{Moment: moment, Size: size}), want)
		}
		is(t, "Least in "+what, ok[[9]int](t)(ground.Least(s.turns, s.buffer)), leastOf(s))
	}
	is(t, fmt.Sprint("some lack, some do not: ", found, none), found > 300 && none > 300, true)
}
