package allocate_test

import (
	"fmt"
	"slices"
	"testing"

	"turnround/allocate"
	"turnround/api"
	"turnround/capacity"
)

// someScenes visits small scenes, and some with many wishes and days.
func someScenes(seed noise, yield func(what string, x *noise, s scene)) {
	x := seed
	for range 700 {
		s := x.someScene()
		yield(fmt.Sprint(s), &x, s)
	}
	for n := range 5 {
		s := x.largeScene(20 + x.next(45))
		yield(fmt.Sprint("large scene ", n, " from ", seed), &x, s)
	}
}

// largeScene is a scene with n wishes on many days.
func (x *noise) largeScene(n int) scene {
	s := scene{limits: list(
		hour(every(30, 0, 1410), onDays(0, 300, 127), atMost(1+n/10)),
		hour(named("in"), ofKind("A"), lasting(20), every(10, 540, 700), onDays(50, 350, 62), atMost(2)),
		hour(named("t"), ofTerminal("t"), lasting(180), every(15, 0, 1439), onDays(0, 400, 127), atMost(1+n/20)),
	)}
	for i := range n {
		from := x.next(200)
		s.wishes = append(s.wishes, wish(fmt.Sprint("w", i), of(pick(x, "x", "y")), kind(pick(x, "A", "D")), in(pick(x, "", "t")),
			at(600+5*x.next(8), 560, 700), step(pick(x, 5, 10, 15)), on(from, from+x.next(200), 1+x.next(127)), ground(0, 100)))
	}
	for i := 0; i+7 < n; i += 9 {
		a, b := &s.wishes[i], &s.wishes[i+7]
		a.Request.Link, b.Request.Link = b.Request.Name, a.Request.Name
		a.Request.Kind, b.Request.Kind = "D", "A"
		b.Request.Period = a.Request.Period
	}
	return s
}

// P6.5: the serial allocation exceeds no limit, its reasons prove it, and there is neither a complaint nor waste.
func TestServedIsProved(t *testing.T) {
	proved := 0
	someScenes(51, func(what string, x *noise, s scene) {
		r := ok[[]allocate.Result](t)(allocate.Serve(s.limits, s.wishes))
		is(t, "CheckAllocation of "+what, allocate.CheckAllocation(s.limits, s.wishes, r), api.OK)
		reasons := ok[[]allocate.Reason](t)(allocate.Reasons(s.limits, s.wishes, r))
		is(t, "CheckReasons of "+what, allocate.CheckReasons(s.limits, s.wishes, r, reasons), api.OK)
		proved += len(reasons)
		_, e := allocate.Envy(s.limits, s.wishes, r)
		is(t, "Envy of "+what, e, api.ErrNone)
		_, e = allocate.Waste(s.limits, s.wishes, r)
		is(t, "Waste of "+what, e, api.ErrNone)
		_, e = capacity.First(s.limits, ok[[]api.Movement](t)(allocate.Placed(s.wishes, r)))
		is(t, "exceeded windows of "+what, e, api.ErrNone)
	})
	is(t, fmt.Sprint("there are some reasons: ", proved), proved > 1000, true)
}

// P6.5: reasons prove no allocation but the serial one, and there is a complaint against each other one.
func TestProvedIsServed(t *testing.T) {
	seen := [2]int{}
	someScenes(52, func(what string, x *noise, s scene) {
		want := ok[[]allocate.Result](t)(allocate.Serve(s.limits, s.wishes))
		r := want
		if len(s.wishes) < 10 {
			r = x.someAllocation(s)
		} else if x.next(2) == 0 {
			r = refusals(s.wishes)
		}
		reasons, e := allocate.Reasons(s.limits, s.wishes, r)
		_, envy := allocate.Envy(s.limits, s.wishes, r)
		isServed := slices.Equal(r, want)
		is(t, fmt.Sprint("reasons prove the serial allocation alone ", what, r), e == api.OK, isServed)
		is(t, fmt.Sprint("reasons that are accepted ", what, r), allocate.CheckReasons(s.limits, s.wishes, r, reasons) == api.OK, isServed)
		is(t, fmt.Sprint("a complaint against any other one ", what, r), envy == api.ErrNone, isServed)
		if isServed {
			seen[0]++
		} else {
			seen[1]++
		}
	})
	is(t, fmt.Sprint("there are some of each: ", seen), seen[0] > 100 && seen[1] > 100, true)
}

// P6.5: the units of a first part of the list are granted what they would be granted alone.
func TestFirstPart(t *testing.T) {
	someScenes(53, func(what string, x *noise, s scene) {
		r := ok[[]allocate.Result](t)(allocate.Serve(s.limits, s.wishes))
		units := unitsOf(s.wishes)
		first := slices.Concat(units[:x.next(len(units)+1)]...)
		slices.Sort(first)
		var part []allocate.Wish
		var want []allocate.Result
		for _, i := range first {
			part, want = append(part, s.wishes[i]), append(want, r[i])
		}
		isList(t, fmt.Sprint("the first ", len(first), " of ", what), ok[[]allocate.Result](t)(allocate.Serve(s.limits, part)), want)
	})
}

// P6.5: an allocation is kept under its own limits, and what is kept under others is an allocation under them.
func TestKept(t *testing.T) {
	withdrawn := 0
	someScenes(54, func(what string, x *noise, s scene) {
		r := ok[[]allocate.Result](t)(allocate.Serve(s.limits, s.wishes))
		if len(s.wishes) < 10 {
			r = x.someAllocation(s)
		}
		isList(t, "kept under its own limits: "+what, ok[[]allocate.Result](t)(allocate.Withdraw(s.limits, s.wishes, r)), r)
		others := slices.Clone(s.limits)
		for i := range others {
			others[i].Most = x.next(others[i].Most + 1)
		}
		others = append(others, x.someLimit("other"))
		left := ok[[]allocate.Result](t)(allocate.Withdraw(others, s.wishes, r))
		is(t, fmt.Sprint("an allocation under others: ", what, r, others), allocate.CheckAllocation(others, s.wishes, left), api.OK)
		for i, result := range left {
			is(t, "kept or refused", result == r[i] || result == refused(r[i].Name), true)
		}
		if !slices.Equal(left, r) {
			withdrawn++
		}
	})
	is(t, fmt.Sprint("some are withdrawn: ", withdrawn), withdrawn > 100, true)
}

// P6.5: a wish that is added has the result that it would have in the serial allocation of all.
func TestAddedIsServed(t *testing.T) {
	someScenes(55, func(what string, x *noise, s scene) {
		if len(s.wishes) == 64 {
			return
		}
		r := ok[[]allocate.Result](t)(allocate.Serve(s.limits, s.wishes))
		w := x.someWish("z")
		got := ok[[]allocate.Result](t)(allocate.Revise(s.limits, s.wishes, r, w))
		isList(t, fmt.Sprint("Revise ", what, w), got, ok[[]allocate.Result](t)(allocate.Serve(s.limits, append(slices.Clone(s.wishes), w))))
	})
}

// P6.5: without limits each unit gets its first option.
func TestWithoutLimits(t *testing.T) {
	someScenes(56, func(what string, x *noise, s scene) {
		r := ok[[]allocate.Result](t)(allocate.Serve(nil, s.wishes))
		for _, unit := range unitsOf(s.wishes) {
			all := choicesOf(s.wishes, unit)
			if len(all) == 0 {
				is(t, "a unit without options", r[unit[0]].Granted || r[unit[1]].Granted, false)
				continue
			}
			for i, at := range unit {
				is(t, "the first option of a unit of "+what, r[at], granted(s.wishes[at].Request.Name, all[0].minutes[i]))
			}
			if len(unit) == 1 {
				is(t, "the minute of the request", r[unit[0]].Minute, s.wishes[unit[0]].Request.Minute)
			}
		}
		isReasons(t, "reasons without limits", ok[[]allocate.Reason](t)(allocate.Reasons(nil, s.wishes, r)), nil)
	})
}

// P6.5: what is offered to a wish is free, so it may have it instead of what it was granted.
func TestOffersAreFree(t *testing.T) {
	x := noise(57)
	for range 200 {
		s := x.someScene()
		r := x.someAllocation(s)
		for i, w := range s.wishes {
			if w.Request.Link != "" {
				continue
			}
			offers := ok[[]int](t)(allocate.Offers(s.limits, s.wishes, r, i))
			for _, minute := range candidatesOf(w) {
				other := slices.Clone(r)
				other[i] = granted(w.Request.Name, minute)
				is(t, fmt.Sprint("offer ", minute, i, s, r), slices.Contains(offers, minute), allocate.CheckAllocation(s.limits, s.wishes, other) == api.OK)
			}
		}
	}
}
