package allocate_test

import (
	"fmt"
	"math"
	"slices"
	"testing"

	"turnround/allocate"
	"turnround/api"
	"turnround/capacity"
)

// P6.4: a wish is added behind all others, and they keep what they have.
func TestRevise(t *testing.T) {
	all, p := list(hour()), pair()
	for _, x := range []struct {
		what string
		scene
		minutes []int
		w       allocate.Wish
		want    int
	}{
		{"the example", scene{all, three()}, list(610, 590, 670), wish("d"), -1},
		{"to nothing", scene{all, nil}, nil, wish("d"), 610},
		{"without limits", scene{nil, three()}, list(610, -1, 670), wish("d"), 610},
		{"the first free candidate", scene{all, three()}, list(610, -1, 670), wish("d"), 590},
		{"a later free candidate", scene{all, three()}, list(610, 590, -1), wish("d"), 670},
		{"beside one that has another option than the serial one", scene{all, three()}, list(670, -1, -1), wish("d"), 610},
		{"beside refused ones", scene{all, three()}, list(-1, -1, -1), wish("d"), 610},
		{"of another day", scene{all, three()}, list(610, 590, 670), wish("d", on(3, 9, 127)), 610},
		{"of several days", scene{list(hour(onDays(0, 9, 127))), three()}, list(610, -1, -1), wish("d", on(1, 9, 127)), 590},
		{"without days", scene{list(hour(atMost(0))), three()}, list(-1, -1, -1), wish("d", on(2, 2, 64)), 610},
		{"with one candidate", scene{all, three()}, list(610, -1, -1), wish("d", only(650)), -1},
		{"beside linked wishes", scene{all, p}, list(610, 670), wish("d"), 590},
		{"beside refused linked wishes", scene{all, p}, list(-1, -1), wish("d"), 610},
		{"with ground times that have no effect", scene{all, nil}, nil, wish("d", ground(100, 200)), 610},
		{"the 64th one", scene{nil, wishes(63)}, slices.Repeat(list(610), 63), wish("d"), 610},
	} {
		r := results(x.wishes, x.minutes...)
		want := append(slices.Clone(r), results(list(x.w), x.want)...)
		isList(t, "the model: "+x.what, revised(x.scene, r, x.w), want)
		isList(t, "Revise: "+x.what, ok[[]allocate.Result](t)(allocate.Revise(x.limits, x.wishes, r, x.w)), want)
	}
}

// P6.4: the errors of a wish that is added.
func TestReviseErrors(t *testing.T) {
	limits, r := list(hour()), results(three(), 610, 590, 670)
	many := wishes(64)
	for _, x := range badWishes() {
		for _, l := range [][]allocate.Wish{three(), many} {
			_, e := allocate.Revise(limits, l, refusals(l), x.value)
			is(t, "Revise: "+x.what, e, x.e)
		}
	}
	for _, x := range []struct {
		what string
		w    allocate.Wish
		want api.Errno
	}{
		{"a name that is there", wish("b"), api.ErrTwice},
		{"a name that is there, with other facts", wish("c", of("z"), on(5, 9, 127)), api.ErrTwice},
		{"a name that is there, with a link", wish("a", link("b")), api.ErrTwice},
		{"a name that is there, and a wrong step", wish("a", step(0)), api.ErrRange},
		{"a name that is there, and a wrong kind", wish("b", kind("T"), link("b")), api.ErrKind},
		{"a link to one that is there", wish("d", kind("D"), link("a")), api.ErrPair},
		{"a link to none", wish("d", link("z")), api.ErrPair},
		{"a link to itself", wish("d", link("d")), api.ErrPair},
		{"a name of another case", wish("A"), api.OK},
	} {
		_, e := allocate.Revise(limits, three(), r, x.w)
		is(t, "Revise: "+x.what, e, x.want)
	}
	_, e := allocate.Revise(limits, many, refusals(many), wish("x"))
	is(t, "Revise of 64 wishes", e, api.ErrMany)
	_, e = allocate.Revise(limits, many, refusals(many), wish("x", link("w0")))
	is(t, "Revise of 64 wishes with a link", e, api.ErrPair)
	_, e = allocate.Revise(limits, many, refusals(many), wish("w63"))
	is(t, "Revise of 64 wishes with a name that is there", e, api.ErrTwice)
	_, e = allocate.Revise(limits, three(), results(three(), 610, 610, 670), wish(""))
	is(t, "Revise with an exceeded limit and a wrong wish", e, api.ErrFull)
}

// P6.4: what fits under other limits is kept, unit by unit.
func TestWithdraw(t *testing.T) {
	late := hour(every(60, 600, 660), atMost(0))
	p := pair()
	for _, x := range []struct {
		what string
		scene
		minutes, want []int
	}{
		{"the example", scene{list(late), three()}, list(610, 590, 670), list(-1, 590, -1)},
		{"nothing", scene{list(late), nil}, nil, nil},
		{"without limits", scene{nil, three()}, list(610, 590, 670), list(610, 590, 670)},
		{"its own limits", scene{list(hour()), three()}, list(610, 590, 670), list(610, 590, 670)},
		{"none permitted", scene{list(hour(atMost(0))), three()}, list(610, 590, 670), list(-1, -1, -1)},
		{"a refused one stays refused", scene{nil, three()}, list(-1, 590, -1), list(-1, 590, -1)},
		{"an allocation that exceeds the limit", scene{list(hour()), three()}, list(610, 610, 670), list(610, -1, 670)},
		{"only kept ones count", scene{list(late, hour(named("b"), lasting(120), every(30, 0, 1410))), three()}, list(610, 590, 590), list(-1, 590, -1)},
		{"the first ones are kept", scene{list(hour(lasting(120))), three()}, list(610, 590, 670), list(610, -1, -1)},
		{"a limit of one day of several", scene{list(hour(onDays(4, 4, 127), atMost(0))), list(wish("a", on(2, 4, 127)), wish("b", on(2, 3, 127)))}, list(610, 610), list(-1, 610)},
		{"linked wishes", scene{list(hour()), p}, list(610, 670), list(610, 670)},
		{"linked wishes in one window", scene{list(hour()), p}, list(610, 650), list(-1, -1)},
		{"the arrival does not fit", scene{list(hour(ofKind("A"), atMost(0))), p}, list(610, 650), list(-1, -1)},
		{"the departure does not fit", scene{list(hour(ofKind("D"), atMost(0))), p}, list(610, 650), list(-1, -1)},
		{"linked wishes before another one", scene{list(hour()), list(p[0], wish("a"), p[1])}, list(610, 670, 670), list(610, -1, 670)},
		{"withdrawn linked wishes do not count", scene{list(hour()), list(p[0], wish("a"), p[1])}, list(610, 630, 650), list(-1, 630, -1)},
	} {
		r, want := results(x.wishes, x.minutes...), results(x.wishes, x.want...)
		isList(t, "the model: "+x.what, kept(x.scene, r), want)
		isList(t, "Withdraw: "+x.what, ok[[]allocate.Result](t)(allocate.Withdraw(x.limits, x.wishes, r)), want)
	}
}

// minutes returns the minutes from one to another with a step.
func minutes(from, to, step int) []int {
	var all []int
	for minute := from; minute <= to; minute += step {
		all = append(all, minute)
	}
	return all
}

// P6.4: the minutes of the day at which a wish fits beside all others.
func TestOffers(t *testing.T) {
	all, p := list(hour()), pair()
	example := slices.Concat(minutes(10, 530, 20), list(610, 630, 650), minutes(730, 1430, 20))
	is(t, "the example has 66 minutes", len(example), 66)
	for _, x := range []struct {
		what string
		scene
		minutes []int
		index   int
		want    []int
	}{
		{"the example", scene{all, three()}, list(610, 590, 670), 0, example},
		{"a refused wish", scene{all, three()}, list(-1, 590, 670), 0, example},
		{"the last wish", scene{all, three()}, list(650, 590, -1), 2, slices.Concat(minutes(10, 530, 20), list(670, 690, 710), minutes(730, 1430, 20))},
		{"none granted", scene{all, three()}, list(-1, -1, -1), 1, minutes(10, 1430, 20)},
		{"without limits", scene{nil, list(wish("a", only(5), step(7)))}, list(5), 0, minutes(5, 1439, 7)},
		{"a greatest step", scene{nil, list(wish("a", only(719), step(120)))}, list(-1), 0, minutes(119, 1439, 120)},
		{"each minute", scene{nil, list(wish("a", only(0), step(1)))}, list(0), 0, minutes(0, 1439, 1)},
		{"none permitted", scene{list(hour(atMost(0), every(1, 0, 1439), onDays(1, 2, 127))), three()}, list(-1, -1, -1), 0, nil},
		{"several days", scene{list(hour(onDays(2, 4, 127))), list(wish("a", on(2, 2, 127)), wish("b", on(3, 3, 127)), wish("c", on(2, 4, 127)))}, list(610, 590, -1), 2, slices.Concat(minutes(10, 530, 20), minutes(670, 1430, 20))},
		{"beside linked wishes", scene{all, append(pair(), wish("a"))}, list(610, 670, -1), 2, slices.Concat(minutes(10, 590, 20), minutes(730, 1430, 20))},
		{"between linked wishes", scene{all, list(p[0], wish("a"), p[1])}, list(610, 590, 670), 1, slices.Concat(minutes(10, 590, 20), minutes(730, 1430, 20))},
	} {
		r := results(x.wishes, x.minutes...)
		isList(t, "the model: "+x.what, offered(x.scene, r, x.index), x.want)
		isList(t, "Offers: "+x.what, ok[[]int](t)(allocate.Offers(x.limits, x.wishes, r, x.index)), x.want)
	}
}

// P6.4: there are no offers for wishes that are not there, or linked.
func TestOffersErrors(t *testing.T) {
	l := append(three(), pair()...)
	r := refusals(l)
	for _, x := range []struct {
		index int
		want  api.Errno
	}{
		{0, api.OK}, {2, api.OK}, {3, api.ErrPair}, {4, api.ErrPair}, {5, api.ErrUnknown},
		{-1, api.ErrUnknown}, {math.MinInt, api.ErrUnknown}, {64, api.ErrUnknown}, {math.MaxInt, api.ErrUnknown},
	} {
		_, e := allocate.Offers(list(hour()), l, r, x.index)
		is(t, fmt.Sprint("Offers of ", x.index), e, x.want)
		_, e = allocate.Offers(list(hour()), three(), results(three(), 610, 610, -1), x.index)
		is(t, fmt.Sprint("Offers with an exceeded limit of ", x.index), e, api.ErrFull)
	}
	_, e := allocate.Offers(nil, nil, nil, 0)
	is(t, "Offers of nothing", e, api.ErrUnknown)
}

// P6.4: changes of any allocation as the definitions say.
func TestChangesModel(t *testing.T) {
	x := noise(41)
	added, withdrawn, offers := 0, 0, 0
	for range 800 {
		s := x.someScene()
		r := x.someAllocation(s)
		what := fmt.Sprint(s, r)
		w := x.someWish("z")
		want := revised(s, r, w)
		isList(t, fmt.Sprint("Revise ", what, w), ok[[]allocate.Result](t)(allocate.Revise(s.limits, s.wishes, r, w)), want)
		if want[len(r)].Granted {
			added++
		}
		for index, w := range s.wishes {
			got, e := allocate.Offers(s.limits, s.wishes, r, index)
			if w.Request.Link != "" {
				is(t, "Offers for a linked wish", e, api.ErrPair)
			} else if w.Request.Period.To-w.Request.Period.From < 2 && len(s.limits) < 3 {
				offers++
				isList(t, fmt.Sprint("Offers ", index, what), got, offered(s, r, index))
			}
		}
		s.limits = append(s.limits, x.someLimit("other"))
		r = x.someResults(s.wishes)
		want = kept(s, r)
		isList(t, fmt.Sprint("Withdraw ", s, r), ok[[]allocate.Result](t)(allocate.Withdraw(s.limits, s.wishes, r)), want)
		if !slices.Equal(want, r) {
			withdrawn++
		}
	}
	is(t, fmt.Sprint("there are some of each: ", added, withdrawn, offers), added > 200 && added < 760 && withdrawn > 200 && offers > 200, true)
}

// P6.4: limits and results of Withdraw belong together only by their wishes, so it has no error of a full window.
func TestWithdrawErrors(t *testing.T) {
	r := results(three(), 610, 610, 610)
	for _, limits := range [][]capacity.Limit{nil, list(hour()), list(hour(atMost(0)))} {
		_, e := allocate.Withdraw(limits, three(), r)
		is(t, "Withdraw", e, api.OK)
	}
}
